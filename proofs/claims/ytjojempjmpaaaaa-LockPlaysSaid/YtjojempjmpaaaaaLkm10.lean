/-
  slices.SortFunc OF ONE.
  A TABLE OF LOCKS: Free of one owner; Holds of one key.
  A TABLE OF LOCKS: Holds of one that holds one key: there is one.
-/
import Derived.Test.YtjojempjmpaaaaaLkm4
namespace Go.Proofs.Ytjojempjmpaaaaa
open Go.RowKit
set_option maxRecDepth 100000 in
theorem len64_one (W : World) : Calls Try.prog 75 #[.int .u64 1] W fun e W' => e = .returned (.int .i64 1) ∧ W = W' := by
  go_enter Try.func75, Try.ntmps75
  go_wp2
  go_ret
  exact ⟨by simp; kernel_rfl, rfl⟩
set_option maxRecDepth 100000 in
theorem len_one (W : World) : Calls Try.prog 59 #[.int .u64 1] W fun e W' => e = .returned (.int .i64 1) ∧ W = W' := by
  have KL := Lib.hid (len64_one W)
  go_enter Try.func59, Try.ntmps59
  go_wp2_with fail
  refine KL.out.mono ?_
  rintro e w1 ⟨rfl, rfl⟩
  go_wp2
  go_ret
  exact ⟨rfl, rfl⟩
set_option maxRecDepth 100000 in
theorem ins_one (a : Option Addr) (c : Nat) (f : Value) (W : World) : Calls Try.prog 66 #[.slice a 1 c, .int .i64 0, .int .i64 1, f] W fun e W' => e = .returned (.tuple #[]) ∧ W = W' := by
  go_enter Try.func66, Try.ntmps66
  go_wp2
  go_loopw [8] (fun i wr => i = .int .i64 1 ∧ W = wr) (fun _ _ => 0)
  case atStart => exact ⟨rfl, rfl⟩
  case round =>
    obtain ⟨rfl, rfl⟩ := hrel
    go_wp2
    refine bodyPost_end (v := .tuple #[]) (results_none rfl _ _ _) ?_ ?_
    · rfl
    · exact ⟨rfl, rfl⟩
set_option maxRecDepth 100000 in
theorem pdq_one (a : Option Addr) (c : Nat) (z : Int) (f : Value) (W : World) : Calls Try.prog 58 #[.slice a 1 c, .int .i64 0, .int .i64 1, .int .i64 z, f] W fun e W' => e = .returned (.tuple #[]) ∧ W = W' := by
  have KI := Lib.hid (ins_one a c f W)
  go_enter Try.func58, Try.ntmps58
  go_wp2
  go_loopw [1, 2] (fun i j wr => i = .int .i64 0 ∧ j = .int .i64 1 ∧ W = wr) (fun _ _ _ => 0)
  case atStart => exact ⟨rfl, rfl, rfl⟩
  case round =>
    obtain ⟨rfl, rfl, rfl⟩ := hrel
    go_wp2_with fail
    refine KI.out.mono ?_
    rintro e w1 ⟨rfl, rfl⟩
    go_wp2
    refine bodyPost_ret (v := .tuple #[]) (results_none rfl _ _ _) ?_ ?_
    · rfl
    · exact ⟨rfl, rfl⟩
set_option maxRecDepth 100000 in
theorem sortf_one (a : Option Addr) (c : Nat) (f : Value) (W : World) : Calls Try.prog 38 #[.slice a 1 c, f] W fun e W' => e = .returned (.tuple #[]) ∧ W = W' := by
  have KL := Lib.hid (len_one W)
  have KP := Lib.hid (pdq_one a c 1 f W)
  go_enter Try.func38, Try.ntmps38
  go_wp2_with fail
  refine KL.out.mono ?_
  rintro e w1 ⟨rfl, rfl⟩
  go_wp2_with fail
  refine KP.out.mono ?_
  rintro e w1 ⟨rfl, rfl⟩
  go_wp2
  refine bodyPost_end (v := .tuple #[]) (results_none rfl _ _ _) ?_ ?_
  · rfl
  · exact ⟨rfl, rfl⟩
end Go.Proofs.Ytjojempjmpaaaaa

namespace Go.Proofs.Ytjojempjmpaaaaa
open Go.RowKit Go.Maps Go.ChangeMaps Go.MapKept Go.WideElems Go.WideMaps
section
variable {B : Nat} {W X : World} {T ml mh mw n : Nat} {s : Lk}
theorem Under.gone {s : Lk} {V : Nat} {k : ByteArray} {q : List Nat} {o : Int} (h : Under s T ml mh mw V) (hq : ∀ x, x ∈ q → x ∈ s.q 0 k) : Under (goneS s k q o) T ml mh mw V :=
  ⟨h.a, fun o' m e => by
    rcases updM_cases (show updM s.hm o none o' = some m from e) with ⟨_, c⟩ | ⟨_, c⟩
    · cases c
    · exact h.m o' m c, h.k, fun i k' x hi hx => by
    have hx : x ∈ updQ s.q 0 k q i k' := hx
    by_cases c : i = 0 ∧ k' = k
    · obtain ⟨rfl, rfl⟩ := c
      rw [updQ_same] at hx
      exact h.x 0 k' x (by decide) (hq x hx)
    · rw [updQ_other _ _ c] at hx
      exact h.x i k' x hi hx, h.p⟩
/-- append of a row of texts that is one long to no row. -/
theorem append_row1 {w : World} {ops : Array Oper} {rest : List Oper} {o : Oper} {a : Act} {Q : Exit → Act → World → Prop} (hgd : o.guard = none) (s x : Operand)
    (ho : o.op = .call { callee := .builtin .append, args := #[s, x], argTypes := #[85, 85] })
    (B : Nat) (ad : Addr) (t : ByteArray) (c : Nat) (hs : a.eval s = .slice none 0 0) (hx : a.eval x = .slice (some ad) 1 c) (hc : w.cell? (ad.add 0) = some (.string t)) (hB : B ≤ w.heap.size)
    (h : ∀ g c' w', RowS w' B (.slice (some ⟨g, 0, none⟩) 1 c') [t] → Below w.heap.size w w' → wpList Try.prog ops Q rest (a.put o.dst (.slice (some ⟨g, 0, none⟩) 1 c')) w') :
    wpList Try.prog ops Q (o :: rest) a w := by
  refine append_s hgd s x ho B (.slice none 0 0) [] ad t c hs (RowS.none _ _) hx hc (by simp) hB (fun v' w' h1 hg _ => ?_)
  rw [List.nil_append] at h1
  obtain ⟨g, c', rfl, _, _⟩ := h1.cells (by simp)
  exact h g c' w' h1 ⟨hg.os, hg.tape, hg.output, hg.size, fun j hj => hg.block j hj (by simp [Value.ownBlock])⟩
set_option maxRecDepth 100000 in
set_option maxHeartbeats 4000000 in
theorem free_one (h : LkAt B W T ml mh mw n s) {o : Int} {k : ByteArray} {w0 m K w : Nat} {q1 q2 r : List Nat} (hwf : (Lit.int .i64 o).wf = true) (hm : s.hm o = some m) (hd1 : s.hd o k = some w0) (hd2 : ∀ k', k' ≠ k → s.hd o k' = none) (hwt : s.wt o = none) (hk : s.lk k = some K) (he : s.q 0 k = q1 ++ w0 :: q2) (hks : k.size ≤ 1000) (hp : PassOk (goneS s k (q1 ++ q2) o) k w K r) (hn : n ≤ 100000) {a : Nat} {c : Nat} (ha : W.cell? ⟨a, 0, none⟩ = some (.int .i64 o)) :
    Calls Try.prog 14 #[.pointer (some ⟨T, 0, none⟩), .slice (some ⟨a, 0, none⟩) 1 c] W (PaP B T ml mh mw n (goneS s k (q1 ++ q2) o) k w r W) := by
  have KM := Lib.hid (made_any h)
  have KG := Lib.hid (letGo_one h hwf hm hd1 hd2 hwt hk he hks)
  have HU := Lib.hid (h.under.gone (o := o) (k := k) (q := q1 ++ q2) (fun x hx => by
    rw [he]
    rcases List.mem_append.1 hx with c | c
    · exact List.mem_append_left _ c
    · exact List.mem_append_right _ (List.mem_cons_of_mem _ c)))
  have HP := Lib.hid hp
  clear h hm hd1 hd2 hwt hk he hks hp
  go_enter Try.func14, Try.ntmps14
  go_wp2_with fail
  refine KM.out.mono ?_
  rintro e w1 ⟨rfl, rfl⟩
  go_wp2
  go_loopw [5, 7, 13] (fun v _ i wr => (i = .int .i64 0 ∧ v = .slice none 0 0 ∧ W = wr) ∨ (i = .int .i64 1 ∧ ∃ g c', v = .slice (some ⟨g, 0, none⟩) 1 c' ∧ Hid (RowS wr W.heap.size v [k]) ∧ Hid (LkAt B wr T ml mh mw n (goneS s k (q1 ++ q2) o)) ∧ Hid (Below B W wr))) (fun _ _ i _ => 1 - (intOf i).toNat)
  case atStart => exact .inl ⟨rfl, rfl, rfl⟩
  case round =>
    rename World => wr
    rcases hrel with ⟨rfl, rfl, rfl⟩ | ⟨rfl, g, c', rfl, hr, ht, hb⟩
    · go_wp2_with fail
      refine KG.out.mono ?_
      rintro e w2 ⟨g, c2, rfl, hr2, ht2, hb2⟩
      have hc2 : w2.cell? ((⟨g, 0, none⟩ : Addr).add 0) = some (.string k) := by
        obtain ⟨g', c', e, _, hh⟩ := hr2.cells (by simp)
        injection e with e
        injection e with e
        injection e with e _
        subst e
        exact hh 0 (by simp)
      have hB2 : W.heap.size ≤ w2.heap.size := hb2.size
      have HT2 := Lib.hid ht2
      have HB2 := Lib.hid hb2
      clear hr2 ht2 hb2
      go_wp2_with (at_builtin; refine append_row1 rfl _ _ rfl W.heap.size ⟨g, 0, none⟩ k c2 rfl rfl hc2 hB2 ?_)
      intro g3 c3 w3 hr3 hb3
      have HR3 := Lib.hid hr3
      have HT3 := Lib.hid (HT2.out.below hb3)
      have HB3 := Lib.hid (HB2.out.trans (hb3.mono HT2.out.lts))
      clear hr3 hb3 hc2 HT2 HB2
      go_wp2
      go_roundw
      case rel => exact .inr ⟨by go_num, g3, c3, rfl, HR3, HT3, HB3⟩
      case measure => simp [intOf]
    · have KP := Lib.hid (pass_one ht.out HP.out HU.out hr.out hn)
      clear hr ht KG KM
      go_wp2_with fail
      refine KP.out.mono ?_
      rintro e w4 ⟨g4, c4, m4, rfl, hc4, ht4, hb4⟩
      have HF : Hid (PaP B T ml mh mw n (goneS s k (q1 ++ q2) o) k w r W (.returned (.slice (some ⟨g4, 0, none⟩) 1 c4)) w4) := ⟨g4, c4, m4, rfl, hc4, ht4, hb.out.trans hb4⟩
      clear hc4 ht4 hb4 KP
      go_wp2
      go_ret
      exact HF.out
end
end Go.Proofs.Ytjojempjmpaaaaa

namespace Go.Proofs.Ytjojempjmpaaaaa
open Go.RowKit Go.Maps Go.ChangeMaps Go.MapKept Go.WideElems Go.WideMaps
def RowC (W : World) (B : Nat) (v : Value) (n : Nat) : Prop := ∃ cs, cs.length = n * 2 ∧ W.ownsRow B 40 2 v n cs
theorem infoC : (Try.prog.info? 40).map (fun i => (i.zero, i.size, i.bytes)) = some (some (.agg #[.string ⟨#[]⟩, .bool false]), 2, 24) := by kernel_rfl
theorem append_c {w : World} {ops : Array Oper} {rest : List Oper} {o : Oper} {a : Act} {Q : Exit → Act → World → Prop} (hgd : o.guard = none) (s x : Operand)
    (ho : o.op = .call { callee := .builtin .append, args := #[s, x], argTypes := #[44, 44] })
    (B : Nat) (ad : Addr) (k : ByteArray) (b : Bool) (c : Nat) (hs : a.eval s = .slice none 0 0) (hx : a.eval x = .slice (some ad) 1 c) (hc : w.cell? (ad.add 0) = some (.string k)) (hc1 : w.cell? (ad.add 1) = some (.bool b)) (hB : B ≤ w.heap.size)
    (h : ∀ g c' w', Below w.heap.size w w' → wpList Try.prog ops Q rest (a.put o.dst (.slice (some ⟨g, 0, none⟩) 1 c')) w') :
    wpList Try.prog ops Q (o :: rest) a w := by
  obtain ⟨i0, hi, hzz⟩ := Option.map_eq_some_iff.1 infoC
  simp only [Prod.mk.injEq] at hzz
  obtain ⟨hz0, hz1, hz2⟩ := hzz
  refine wpList_append_own_at _ hgd s x 44 ho B 40 i0 _ 2 24 Try.underlying44 hi hz0 hz1 hz2 rfl (by decide) (.slice none 0 0) 0 [] hs (World.ownsRow_nil _ _ _ _) ad 1 c [.string k, .bool b] hx rfl ?_ ?_ (by unfold maxLen; omega) (by omega) hB (fun v' w' h1 hg _ _ => ?_)
  · intro j u' hj
    match j, hj with
    | 0, hj => simp at hj; subst hj; exact hc
    | 1, hj => simp at hj; subst hj; exact hc1
  · intro u' hu; simp at hu; rcases hu with rfl | rfl <;> rfl
  · rcases h1.2 with ⟨hv, hn⟩ | ⟨g, cp, cur, hv, hb, _⟩
    · simp at hn
    · subst hv
      exact h g cp w' ⟨hg.os, hg.tape, hg.output, hg.size, fun j hj => hg.block j hj (by simp [Value.ownBlock])⟩
section
variable {B : Nat} {W X : World} {T ml mh mw n : Nat} {s : Lk}
structure HoW (B : Nat) (W wr : World) (T ml mh mw n m R : Nat) (s : Lk) (D0 : DataW Unit) (dn : Bool) (v : Value) (lf : Lit → Bool) (cnt : Nat) : Prop where
  t : LkAt B wr T ml mh mw n s
  rg : wr.ranges Try.prog 9 (rdB pV (H := Unit)) m R n D0 lf cnt
  nf : dn = false → lf = has D0 ∧ v = .slice none 0 0
  df : dn = true → (∀ t : ByteArray, lf (.string t.data.toList) = false) ∧ ∃ g c, v = .slice (some ⟨g, 0, none⟩) 1 c
  bw : Below B W wr
  hR : (T < R ∧ ml < R ∧ mh < R ∧ mw < R ∧ ∀ o m, s.hm o = some m → m < R) ∧ R < wr.heap.size ∧ B ≤ R
set_option maxRecDepth 100000 in
set_option maxHeartbeats 4000000 in
theorem holds_one (h : LkAt B W T ml mh mw n s) {o : Int} {k : ByteArray} {w m : Nat} (hwf : (Lit.int .i64 o).wf = true) (hm : s.hm o = some m) (hd1 : s.hd o k = some w) (hd2 : ∀ k', k' ≠ k → s.hd o k' = none) (hw2 : w ∈ s.q 0 k) :
    Calls Try.prog 16 #[.pointer (some ⟨T, 0, none⟩), .int .i64 o] W fun e W' => (∃ g c, e = .returned (.slice (some ⟨g, 0, none⟩) 1 c)) ∧ Below B W W' := by
  have t1 := h.t1
  have l1 := h.m1.look heldMap o hwf
  rw [hm] at l1
  replace l1 : (Instr.lookup 57 (.map (some mh)) (.int .i64 o) false).run Try.prog W = .ok (.map (some m)) W := l1
  obtain ⟨D0, hown, hat0, hhas⟩ := h.md o m hm
  have KM := Lib.hid (made_any h)
  have HAT := Lib.hid hat0
  have HAS := Lib.hid hhas
  have H0 := Lib.hid h
  have HD1 := Lib.hid hd1
  have HD2 := Lib.hid hd2
  have HQ := Lib.hid hw2
  have HLT : Hid (T < W.heap.size ∧ ml < W.heap.size ∧ mh < W.heap.size ∧ mw < W.heap.size ∧ ∀ o m, s.hm o = some m → m < W.heap.size) := ⟨block_lt (p := ⟨T, 0, none⟩) h.t0, h.m0.lt, h.m1.lt, h.m2.lt, fun o m e => (h.md o m e).lt⟩
  have hB := h.lts
  clear h hat0 hhas hm hd1 hd2 hw2
  go_enter Try.func16, Try.ntmps16
  go_wp2_with fail
  refine KM.out.mono ?_
  rintro e w1 ⟨rfl, rfl⟩
  go_wp2_with (first
    | (at_range; refine wpList_range_own _ rfl _ 73 rfl 9 72 (string_keyed Try.underlying9) Try.underlying73 (rdB pV (H := Unit)) m n D0 rfl hown ?_; intro w0 hrg0 hg0 hs0)
    | fail)
  go_frame
  have hbg : Below W.heap.size W w0 := ⟨hg0.os, hg0.tape, hg0.output, hg0.size, fun j hj => hg0.block j hj (by simp)⟩
  have S0 : Hid (HoW B W w0 T ml mh mw n m W.heap.size s D0 false (.slice none 0 0) (has D0) (size D0)) :=
    ⟨H0.out.below hbg, hrg0, fun _ => ⟨rfl, rfl⟩, fun e => by (cases e), hbg.mono hB, HLT.out, by omega, hB⟩
  clear hbg hg0 hs0 hrg0 hown l1 t1 KM
  generalize hR : W.heap.size = R at *
  go_loopw [5, 7] (fun v _ wr => ∃ (dn : Bool) (lf : Lit → Bool) (cnt : Nat), Hid (HoW B W wr T ml mh mw n m R s D0 dn v lf cnt)) (fun _ _ wr => wr.rangeLeft m R)
  case atStart => exact ⟨false, _, _, S0⟩
  case round =>
    obtain ⟨dn, lf, cnt, st⟩ := hrel
    rename World => wr
    clear S0
    have hrg := Lib.hid st.out.rg
    have hle := st.out.rg.left_eq
    go_wp2_with (first
      | (at_next; refine wpList_next_ranges _ rfl _ rfl 9 (string_keyed Try.underlying9) (rdB pV (H := Unit)) Value.string pV (fun key kl hkey => by obtain ⟨x, rfl, _⟩ := key_str hkey; exact ⟨x, rfl⟩) (fun v y hv => by obtain ⟨c, rfl, _⟩ := rdB_inv hv; exact ⟨c, rfl⟩) m R n D0 lf cnt rfl hrg.out ?_ ?_)
      | fail)
    · intro hc0 hl0
      cases dn with
      | false =>
        exfalso
        have h1 := (st.out.nf rfl).1
        have h2 := hl0 (.string k.data.toList)
        rw [h1] at h2
        have h3 := HAS.out k
        rw [HD1.out] at h3
        have h4 : has D0 (.string k.data.toList) = true := h3
        rw [h4] at h2
        cases h2
      | true =>
        obtain ⟨_, g, c, rfl⟩ := st.out.df rfl
        have KS := Lib.hid (sortf_one (some ⟨g, 0, none⟩) c (.func (.func 39) #[] #[]) wr)
        have HB2 := Lib.hid st.out.bw
        clear st hrg hle
        go_wp2_with fail
        refine KS.out.mono ?_
        rintro e w5 ⟨rfl, rfl⟩
        go_wp2
        go_ret
        exact ⟨⟨g, c, rfl⟩, HB2.out⟩
    · intro x c kl y1 y2 w2 cnt1 hkey hlk hv hat hrg1 hlt hg1 hs1 hen
      obtain ⟨x', ex, rfl⟩ := key_str hkey
      injection ex with ex
      subst ex
      obtain ⟨c', ec, ey⟩ := rdB_inv hv
      obtain rfl := pV_inj ec
      obtain rfl : y1 = .lit (.int .i64 (encF c)) := (Prod.mk.inj ey).1
      have hcx : c = s.hd o x := by
        have h1 := hat (.lit (.int .i64 0))
        have h2 := HAT.out x
        have h3 : D0.atKey (.string x.data.toList) (.lit (.int .i64 0)) = .lit (.int .i64 (encF (s.hd o x))) := h2
        rw [h3] at h1
        have h4 : encF (s.hd o x) = encF c := by injection h1 with h1; injection h1
        exact (encF_inj h4).symm
      cases dn with
      | true =>
        exfalso
        have h1 := (st.out.df rfl).1 x
        rw [h1] at hlk
        cases hlk
      | false =>
        obtain ⟨hlf, hv0⟩ := st.out.nf rfl
        have hxk : x = k := by
          rw [hlf] at hlk
          have h1 := HAS.out x
          have h2 : has D0 (.string x.data.toList) = (s.hd o x).isSome := h1
          rw [h2] at hlk
          by_cases e : x = k
          · exact e
          · rw [HD2.out x e] at hlk; cases hlk
        subst hxk
        rw [HD1.out] at hcx
        subst hcx
        subst hv0
        have ht := st.out.t
        obtain ⟨⟨r0, r1, r2, r3, r4⟩, r5, r6⟩ := st.out.hR
        have ht2 := Lib.hid (ht.turn (iter_cell st.out.rg) ⟨r1, r2, r3, r4⟩ hg1)
        have hwc := ht2.out.wc 0 x w (by decide) HQ.out
        have u0 := hwc.c0
        have u1 := hwc.c1
        replace hen : (Instr.entry (.pointer (some ⟨R, 0, none⟩))).run Try.prog w2 = .ok (.tuple #[.string x, .pointer (some ⟨w, 0, none⟩)]) w2 := hen
        have HB2 := Lib.hid ((st.out.bw.trans ((Below.refl B wr).grown hg1 ht.lts (fun g e => by injection e with e; omega))))
        have HLF := Lib.hid hlf
        have hlt2 := hlt
        have hba : Below w2.heap.size w2 (w2.alloc (.cells #[.string (s.con w).k, .bool (s.con w).wr] 40)) := (Below.refl _ _).alloc (Nat.le_refl _) _
        have H4 := Lib.hid (ht2.out.below hba)
        have hrg4 := Lib.hid (hrg1.alloc (.cells #[.string (s.con w).k, .bool (s.con w).wr] 40))
        have hb4 := Lib.hid (HB2.out.trans (hba.mono ht2.out.lts))
        have hcl : (w2.alloc (.cells #[.string (s.con w).k, .bool (s.con w).wr] 40)).cell? ((⟨w2.heap.size, 0, none⟩ : Addr).add 0) = some (.string (s.con w).k) := new_cell rfl rfl
        have hcl1 : (w2.alloc (.cells #[.string (s.con w).k, .bool (s.con w).wr] 40)).cell? ((⟨w2.heap.size, 0, none⟩ : Addr).add 1) = some (.bool (s.con w).wr) := new_cell rfl rfl
        have hs4 : R < (w2.alloc (.cells #[.string (s.con w).k, .bool (s.con w).wr] 40)).heap.size := Nat.lt_of_lt_of_le hrg1.lt hba.size
        clear st ht hrg1 hg1 hkey hlk hv hat hlf hlt ec ey hwc hba HB2 hs1
        go_wp2_with (at_builtin; refine append_c rfl _ _ rfl B ⟨w2.heap.size, 0, none⟩ (s.con w).k (s.con w).wr 1 rfl rfl hcl hcl1 H4.out.lts ?_)
        intro g5 c5 w5 hb5
        replace hb5 : Below (w2.alloc (.cells #[.string (s.con w).k, .bool (s.con w).wr] 40)).heap.size (w2.alloc (.cells #[.string (s.con w).k, .bool (s.con w).wr] 40)) w5 := by rw [World.size_alloc]; exact hb5
        have hrg5 := ranges_blocks hrg4.out (hb5.block m hrg4.out.owns.lt) (hb5.block R hrg4.out.lt)
        have ST : Hid (HoW B W w5 T ml mh mw n m R s D0 true (.slice (some ⟨g5, 0, none⟩) 1 c5) (fun z => lf z && !z.sameKey (.string x.data.toList)) cnt1) := ⟨H4.out.below hb5, hrg5, fun e => by (cases e), fun _ => ⟨fun t => by
          by_cases e : t = x
          · subst e
            simp [Lit.sameKey]
          · rw [HLF.out]
            have h2 : has D0 (.string t.data.toList) = (s.hd o t).isSome := HAS.out t
            rw [h2, HD2.out t e]
            rfl, g5, c5, rfl⟩, hb4.out.trans (hb5.mono H4.out.lts), ⟨⟨r0, r1, r2, r3, r4⟩, by have := hb5.size; omega, r6⟩⟩
        have HMS := Lib.hid hrg5.left_eq
        clear hb5 hrg5 hb4 hrg4 H4
        go_wp2
        go_roundw
        case rel => exact ⟨true, _, cnt1, ST⟩
        case measure => rw [HMS.out, hle]; exact hlt2
end
end Go.Proofs.Ytjojempjmpaaaaa
