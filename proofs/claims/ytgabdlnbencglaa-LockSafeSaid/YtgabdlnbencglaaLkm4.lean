/-
  slices.SortFunc OF ONE.
  A TABLE OF LOCKS: Free of one owner; Holds of one key.
-/
import Derived.Test.YtgabdlnbencglaaLkPass
namespace Go.Proofs.Ytgabdlnbencglaa
open Go.RowKit
set_option maxRecDepth 100000 in
theorem len64_one (W : World) : Calls Try.prog 75 #[.int .u64 1] W fun e W' => e = .returned (.int .i64 1) ∧ W = W' := by
  go_enter Try.func75, Try.ntmps75
  go_wp2
  go_ret
  exact ⟨by simp; kernel_rfl, rfl⟩
set_option maxRecDepth 100000 in
theorem len_one (W : World) : Calls Try.prog 59 #[.int .u64 1] W fun e W' => e = .returned (.int .i64 1) ∧ W = W' := by
  have KL := Lib.hid (len64_one W)
  go_enter Try.func59, Try.ntmps59
  go_wp2_with fail
  refine KL.out.mono ?_
  rintro e w1 ⟨rfl, rfl⟩
  go_wp2
  go_ret
  exact ⟨rfl, rfl⟩
set_option maxRecDepth 100000 in
theorem ins_one (a : Option Addr) (c : Nat) (f : Value) (W : World) : Calls Try.prog 66 #[.slice a 1 c, .int .i64 0, .int .i64 1, f] W fun e W' => e = .returned (.tuple #[]) ∧ W = W' := by
  go_enter Try.func66, Try.ntmps66
  go_wp2
  go_loopw [8] (fun i wr => i = .int .i64 1 ∧ W = wr) (fun _ _ => 0)
  case atStart => exact ⟨rfl, rfl⟩
  case round =>
    obtain ⟨rfl, rfl⟩ := hrel
    go_wp2
    refine bodyPost_end (v := .tuple #[]) (results_none rfl _ _ _) ?_ ?_
    · rfl
    · exact ⟨rfl, rfl⟩
set_option maxRecDepth 100000 in
theorem pdq_one (a : Option Addr) (c : Nat) (z : Int) (f : Value) (W : World) : Calls Try.prog 58 #[.slice a 1 c, .int .i64 0, .int .i64 1, .int .i64 z, f] W fun e W' => e = .returned (.tuple #[]) ∧ W = W' := by
  have KI := Lib.hid (ins_one a c f W)
  go_enter Try.func58, Try.ntmps58
  go_wp2
  go_loopw [1, 2] (fun i j wr => i = .int .i64 0 ∧ j = .int .i64 1 ∧ W = wr) (fun _ _ _ => 0)
  case atStart => exact ⟨rfl, rfl, rfl⟩
  case round =>
    obtain ⟨rfl, rfl, rfl⟩ := hrel
    go_wp2_with fail
    refine KI.out.mono ?_
    rintro e w1 ⟨rfl, rfl⟩
    go_wp2
    refine bodyPost_ret (v := .tuple #[]) (results_none rfl _ _ _) ?_ ?_
    · rfl
    · exact ⟨rfl, rfl⟩
set_option maxRecDepth 100000 in
theorem sortf_one (a : Option Addr) (c : Nat) (f : Value) (W : World) : Calls Try.prog 38 #[.slice a 1 c, f] W fun e W' => e = .returned (.tuple #[]) ∧ W = W' := by
  have KL := Lib.hid (len_one W)
  have KP := Lib.hid (pdq_one a c 1 f W)
  go_enter Try.func38, Try.ntmps38
  go_wp2_with fail
  refine KL.out.mono ?_
  rintro e w1 ⟨rfl, rfl⟩
  go_wp2_with fail
  refine KP.out.mono ?_
  rintro e w1 ⟨rfl, rfl⟩
  go_wp2
  refine bodyPost_end (v := .tuple #[]) (results_none rfl _ _ _) ?_ ?_
  · rfl
  · exact ⟨rfl, rfl⟩
end Go.Proofs.Ytgabdlnbencglaa

namespace Go.Proofs.Ytgabdlnbencglaa
open Go.RowKit Go.Maps Go.ChangeMaps Go.MapKept Go.WideElems Go.WideMaps
section
variable {B : Nat} {W X : World} {T ml mh mw n : Nat} {s : Lk}
theorem Under.gone {s : Lk} {V : Nat} {k : ByteArray} {q : List Nat} {o : Int} (h : Under s T ml mh mw V) (hq : ∀ x, x ∈ q → x ∈ s.q 0 k) : Under (goneS s k q o) T ml mh mw V :=
  ⟨h.a, fun o' m e => by
    rcases updM_cases (show updM s.hm o none o' = some m from e) with ⟨_, c⟩ | ⟨_, c⟩
    · cases c
    · exact h.m o' m c, h.k, fun i k' x hi hx => by
    have hx : x ∈ updQ s.q 0 k q i k' := hx
    by_cases c : i = 0 ∧ k' = k
    · obtain ⟨rfl, rfl⟩ := c
      rw [updQ_same] at hx
      exact h.x 0 k' x (by decide) (hq x hx)
    · rw [updQ_other _ _ c] at hx
      exact h.x i k' x hi hx, h.p⟩
/-- append of a row of texts that is one long to no row. -/
theorem append_row1 {w : World} {ops : Array Oper} {rest : List Oper} {o : Oper} {a : Act} {Q : Exit → Act → World → Prop} (hgd : o.guard = none) (s x : Operand)
    (ho : o.op = .call { callee := .builtin .append, args := #[s, x], argTypes := #[85, 85] })
    (B : Nat) (ad : Addr) (t : ByteArray) (c : Nat) (hs : a.eval s = .slice none 0 0) (hx : a.eval x = .slice (some ad) 1 c) (hc : w.cell? (ad.add 0) = some (.string t)) (hB : B ≤ w.heap.size)
    (h : ∀ g c' w', RowS w' B (.slice (some ⟨g, 0, none⟩) 1 c') [t] → Below w.heap.size w w' → wpList Try.prog ops Q rest (a.put o.dst (.slice (some ⟨g, 0, none⟩) 1 c')) w') :
    wpList Try.prog ops Q (o :: rest) a w := by
  refine append_s hgd s x ho B (.slice none 0 0) [] ad t c hs (RowS.none _ _) hx hc (by simp) hB (fun v' w' h1 hg _ => ?_)
  rw [List.nil_append] at h1
  obtain ⟨g, c', rfl, _, _⟩ := h1.cells (by simp)
  exact h g c' w' h1 ⟨hg.os, hg.tape, hg.output, hg.size, fun j hj => hg.block j hj (by simp [Value.ownBlock])⟩
set_option maxRecDepth 100000 in
set_option maxHeartbeats 4000000 in
theorem free_one (h : LkAt B W T ml mh mw n s) {o : Int} {k : ByteArray} {w0 m K w : Nat} {q1 q2 r : List Nat} (hwf : (Lit.int .i64 o).wf = true) (hm : s.hm o = some m) (hd1 : s.hd o k = some w0) (hd2 : ∀ k', k' ≠ k → s.hd o k' = none) (hwt : s.wt o = none) (hk : s.lk k = some K) (he : s.q 0 k = q1 ++ w0 :: q2) (hks : k.size ≤ 1000) (hp : PassOk (goneS s k (q1 ++ q2) o) k w K r) (hn : n ≤ 100000) {a : Nat} {c : Nat} (ha : W.cell? ⟨a, 0, none⟩ = some (.int .i64 o)) :
    Calls Try.prog 14 #[.pointer (some ⟨T, 0, none⟩), .slice (some ⟨a, 0, none⟩) 1 c] W (PaP B T ml mh mw n (goneS s k (q1 ++ q2) o) k w r W) := by
  have KM := Lib.hid (made_any h)
  have KG := Lib.hid (letGo_one h hwf hm hd1 hd2 hwt hk he hks)
  have HU := Lib.hid (h.under.gone (o := o) (k := k) (q := q1 ++ q2) (fun x hx => by
    rw [he]
    rcases List.mem_append.1 hx with c | c
    · exact List.mem_append_left _ c
    · exact List.mem_append_right _ (List.mem_cons_of_mem _ c)))
  have HP := Lib.hid hp
  clear h hm hd1 hd2 hwt hk he hks hp
  go_enter Try.func14, Try.ntmps14
  go_wp2_with fail
  refine KM.out.mono ?_
  rintro e w1 ⟨rfl, rfl⟩
  go_wp2
  go_loopw [5, 7, 13] (fun v _ i wr => (i = .int .i64 0 ∧ v = .slice none 0 0 ∧ W = wr) ∨ (i = .int .i64 1 ∧ ∃ g c', v = .slice (some ⟨g, 0, none⟩) 1 c' ∧ Hid (RowS wr W.heap.size v [k]) ∧ Hid (LkAt B wr T ml mh mw n (goneS s k (q1 ++ q2) o)) ∧ Hid (Below B W wr))) (fun _ _ i _ => 1 - (intOf i).toNat)
  case atStart => exact .inl ⟨rfl, rfl, rfl⟩
  case round =>
    rename World => wr
    rcases hrel with ⟨rfl, rfl, rfl⟩ | ⟨rfl, g, c', rfl, hr, ht, hb⟩
    · go_wp2_with fail
      refine KG.out.mono ?_
      rintro e w2 ⟨g, c2, rfl, hr2, ht2, hb2⟩
      have hc2 : w2.cell? ((⟨g, 0, none⟩ : Addr).add 0) = some (.string k) := by
        obtain ⟨g', c', e, _, hh⟩ := hr2.cells (by simp)
        injection e with e
        injection e with e
        injection e with e _
        subst e
        exact hh 0 (by simp)
      have hB2 : W.heap.size ≤ w2.heap.size := hb2.size
      have HT2 := Lib.hid ht2
      have HB2 := Lib.hid hb2
      clear hr2 ht2 hb2
      go_wp2_with (at_builtin; refine append_row1 rfl _ _ rfl W.heap.size ⟨g, 0, none⟩ k c2 rfl rfl hc2 hB2 ?_)
      intro g3 c3 w3 hr3 hb3
      have HR3 := Lib.hid hr3
      have HT3 := Lib.hid (HT2.out.below hb3)
      have HB3 := Lib.hid (HB2.out.trans (hb3.mono HT2.out.lts))
      clear hr3 hb3 hc2 HT2 HB2
      go_wp2
      go_roundw
      case rel => exact .inr ⟨by go_num, g3, c3, rfl, HR3, HT3, HB3⟩
      case measure => simp [intOf]
    · have KP := Lib.hid (pass_one ht.out HP.out HU.out hr.out hn)
      clear hr ht KG KM
      go_wp2_with fail
      refine KP.out.mono ?_
      rintro e w4 ⟨g4, c4, m4, rfl, hc4, ht4, hb4⟩
      have HF : Hid (PaP B T ml mh mw n (goneS s k (q1 ++ q2) o) k w r W (.returned (.slice (some ⟨g4, 0, none⟩) 1 c4)) w4) := ⟨g4, c4, m4, rfl, hc4, ht4, hb.out.trans hb4⟩
      clear hc4 ht4 hb4 KP
      go_wp2
      go_ret
      exact HF.out
end
end Go.Proofs.Ytgabdlnbencglaa
