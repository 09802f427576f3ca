/-
  THE CONTRACTS OF slices.Grow (of no slice) and slices.Concat at cells.
-/
import Derived.Test.YtgkpbchpjgkblaaDoorPgFind
import Derived.Laws.OwnMore
import Derived.Maps.AppendAt
import Derived.OwnWalk
namespace Go.Proofs.YtgkpbchpjgkblaaDoor
open Go.RowKit
def clC (c : ByteArray × ByteArray) : List Value := [.string c.1, .string c.2]
def clsC (l : List (ByteArray × ByteArray)) : List Value := l.flatMap clC
theorem clsC_len : ∀ l : List (ByteArray × ByteArray), (clsC l).length = l.length * 2
  | [] => rfl
  | c :: l => by
    have := clsC_len l
    unfold clsC at this ⊢
    rw [List.flatMap_cons, List.length_append, this]
    show 2 + l.length * 2 = (l.length + 1) * 2
    omega
theorem clsC_append (a b : List (ByteArray × ByteArray)) : clsC (a ++ b) = clsC a ++ clsC b := by unfold clsC; rw [List.flatMap_append]
theorem clsC_get : ∀ (l : List (ByteArray × ByteArray)) (i : Nat), i < l.length → (clsC l)[i * 2]? = some (.string (l.getD i noCl).1) ∧ (clsC l)[i * 2 + 1]? = some (.string (l.getD i noCl).2)
  | c :: l, 0, _ => ⟨rfl, rfl⟩
  | c :: l, i + 1, h => by
    have ih := clsC_get l i (by simpa using h)
    have e : clsC (c :: l) = .string c.1 :: .string c.2 :: clsC l := rfl
    have e2 : (i + 1) * 2 = i * 2 + 1 + 1 := by omega
    rw [e, e2, List.getElem?_cons_succ, List.getElem?_cons_succ, List.getElem?_cons_succ, List.getElem?_cons_succ]
    exact ih
/-- A row of cells of the call's own. -/
def RowC (W : World) (B : Nat) (v : Value) (l : List (ByteArray × ByteArray)) : Prop := W.ownsRow B 44 2 v l.length (clsC l)
theorem RowC.below {W W' : World} {B : Nat} {v : Value} {l : List (ByteArray × ByteArray)} (h : RowC W B v l) (hb : Below W.heap.size W W') : RowC W' B v l :=
  World.ownsRow.kept h (row := none) ⟨hb.os, hb.tape, hb.output, hb.size, fun k hk _ => hb.block k hk⟩ (by cases v.ownBlock with
    | none => exact .inl rfl
    | some k => exact .inr (fun e => by cases e))
theorem RowC.cls {W : World} {B : Nat} {v : Value} {l : List (ByteArray × ByteArray)} (h : RowC W B v l) : ∃ a c, v = .slice a l.length c ∧ ClsAt W a l ∧ (a = Option.none → c = 0) ∧ l.length ≤ c := by
  rcases h.2 with ⟨hv, hz⟩ | ⟨g, cap, cur, hv, hb, hg, hnc, r⟩
  · refine ⟨Option.none, 0, by rw [hv, hz], .inl (List.length_eq_zero_iff.1 hz), fun _ => rfl, by omega⟩
  · subst hv
    refine ⟨_, cap, rfl, .inr ⟨g, 0, rfl, fun i hi => ?_⟩, (fun e => by cases e), hnc⟩
    obtain ⟨h1, h2⟩ := clsC_get l i hi
    rw [Nat.zero_add, World.ownsRow.cellAt h (i * 2) (by omega), World.ownsRow.cellAt h (i * 2 + 1) (by omega)]
    exact ⟨h1, h2⟩
theorem infoC : (Tryd.prog.info? 44).map (fun i => (i.zero, i.size, i.bytes)) = some (some (.agg #[.string ⟨#[]⟩, .string ⟨#[]⟩]), 2, 32) := by kernel_rfl
theorem cls_one : ∀ l : List (ByteArray × ByteArray), ∀ u ∈ clsC l, u.oneCell' = true := by
  intro l u hu
  unfold clsC at hu
  rw [List.mem_flatMap] at hu
  obtain ⟨c, _, hc⟩ := hu
  unfold clC at hc
  simp at hc
  rcases hc with rfl | rfl <;> rfl
/-- append of a slice of cells. -/
theorem append_cls {W0 : World} {ops : Array Oper} {rest : List Oper} {o : Oper} {a : Act} {Q : Exit → Act → World → Prop} (hgd : o.guard = none) (s x : Operand)
    (ho : o.op = .call { callee := .builtin .append, args := #[s, x], argTypes := #[22, 22] })
    (B : Nat) (v : Value) (l : List (ByteArray × ByteArray)) (b : Option Addr) (m : List (ByteArray × ByteArray)) (c : Nat) (hs : a.eval s = v) (hown : RowC W0 B v l) (hx : a.eval x = .slice b m.length c) (hm : ClsAt W0 b m) (h0 : b = none → c = 0) (h10 : l.length ≤ 1000) (h11 : m.length ≤ 1000) (hB : B ≤ W0.heap.size)
    (h : ∀ v' w', RowC w' B v' (l ++ m) → W0.grownBy w' v.ownBlock → wpList Tryd.prog ops Q rest (a.put o.dst v') w') :
    wpList Tryd.prog ops Q (o :: rest) a W0 := by
  obtain ⟨i0, hi, hzz⟩ := Option.map_eq_some_iff.1 infoC
  simp only [Prod.mk.injEq] at hzz
  obtain ⟨hz0, hz1, hz2⟩ := hzz
  have main : ∀ (ad : Addr), b = some ad → (∀ j u, (clsC m)[j]? = some u → W0.cell? (ad.add j) = some u) → wpList Tryd.prog ops Q (o :: rest) a W0 := fun ad e hc => by
    subst e
    refine wpList_append_own_at _ hgd s x 22 ho B 44 i0 _ 2 32 Tryd.underlying22 hi hz0 hz1 hz2 rfl (by decide) v l.length (clsC l) hs hown ad m.length c (clsC m) hx (clsC_len m) hc (cls_one m) (by unfold maxLen; omega) (by omega) hB (fun v' w' h1 h2 _ _ => h v' w' ?_ h2)
    unfold RowC
    rw [List.length_append, clsC_append]; exact h1
  rcases hm with rfl | ⟨bb, off, e, hc⟩
  · cases b with
    | some ad => exact main ad rfl (fun j u hj => by cases hj)
    | none =>
      have hc0 := h0 rfl
      subst hc0
      refine wpList_plain hgd fun K hK => ?_
      have hr := run_append_owned_none (P := Tryd.prog) (w := W0) B 22 o.type 44 i0 2 Tryd.underlying22 hi v l.length (clsC l) hown
      unfold Oper.wp execOp
      simp only [ho, resolve, invoke, builtin, Sem.run_bind, Sem.run_pure, Result.andThen_ok, List.map_toArray, List.map_cons, List.map_nil, hs, hx]
      have hx2 : (Value.slice none ([] : List (ByteArray × ByteArray)).length 0) = Value.slice none 0 0 := rfl
      rw [hx2, hr]
      exact hK _ _ (h v W0 (by rw [List.append_nil]; exact hown) (World.grownBy.refl _ _))
  · subst e
    refine main _ rfl (fun j u hj => ?_)
    have hjl : j < m.length * 2 := by
      have := (List.getElem?_eq_some_iff.1 hj).1
      rw [clsC_len] at this; exact this
    have ea : (⟨bb, off, none⟩ : Addr).add j = ⟨bb, off + j, none⟩ := by unfold Addr.add; split <;> simp_all
    rw [ea]
    obtain ⟨g1, g2⟩ := clsC_get m (j / 2) (by omega)
    obtain ⟨k1, k2⟩ := hc (j / 2) (by omega)
    rcases Nat.mod_two_eq_zero_or_one j with hp | hp
    · have e1 : j / 2 * 2 = j := by omega
      rw [e1] at g1 k1
      rw [hj] at g1
      rw [k1]; exact g1.symm
    · have e1 : j / 2 * 2 + 1 = j := by omega
      rw [e1] at g2
      rw [Nat.add_assoc, e1] at k2
      rw [hj] at g2
      rw [k2]; exact g2.symm
theorem grow_nil (n : Nat) (hn : n ≤ 100000) (W : World) : Calls Tryd.prog 50 #[.slice none 0 0, .int .i64 (n : Int)] W fun e w' => ∃ v, e = .returned v ∧ RowC w' W.heap.size v [] ∧ Below W.heap.size W w' := by
  by_cases h0 : n = 0
  · subst h0
    refine (Any8.slices_Grow_room Tryd.lays8_4 none 0 0 0 W (by omega) (by omega) (by omega) (by omega)).mono ?_
    rintro e w' ⟨rfl, rfl⟩
    exact ⟨_, rfl, World.ownsRow_nil _ _ _ _, Below.refl _ _⟩
  · obtain ⟨i0, hi, hzz⟩ := Option.map_eq_some_iff.1 infoC
    simp only [Prod.mk.injEq] at hzz
    obtain ⟨hz0, hz1, hz2⟩ := hzz
    refine (Any8.slices_Grow_grow Tryd.lays8_4 i0 _ hi hz0 (by omega) none 0 0 n [] W (by omega) (by omega) (by rw [hz2]; omega) (by omega) (by simp) (fun _ => rfl) (fun a h => by cases h)).mono ?_
    rintro e w' ⟨rfl, rfl⟩
    have hG := grownCap_ge W (0 + n) 0 44
    have hM := grownCap_le_maxLen W (0 + n) 0 44 (by unfold maxLen; omega)
    refine ⟨_, rfl, ⟨by simp [clsC], .inr ⟨W.heap.size, _, _, rfl, Nat.le_refl _, hp_new rfl, Nat.zero_le _, hM, ?_, by simp [clsC]⟩⟩, (Below.refl _ W).drew.alloc (Nat.le_refl _) _⟩
    rw [Array.size_append, Array.size_append, size_zeroCells, size_zeroCells]
    show 0 + (0 + n - 0) * 2 + (grownCap W (0 + n) 0 44 - (0 + n)) * 2 = grownCap W (0 + n) 0 44 * 2
    omega
/-- A slice of cells. -/
structure Sl where
  a : Option Addr
  l : List (ByteArray × ByteArray)
  c : Nat
def noSl : Sl := ⟨none, [], 0⟩
structure SlOk (W : World) (T k : Nat) (x : Sl) : Prop where
  c : W.cell? ⟨T, k, none⟩ = some (.slice x.a x.l.length x.c)
  m : ClsAt W x.a x.l
  z : x.a = none → x.c = 0
  n : x.l.length ≤ 100
def joinS (S : List Sl) : List (ByteArray × ByteArray) := S.flatMap (·.l)
theorem joinS_succ (S : List Sl) (k : Nat) (h : k < S.length) : joinS (S.take (k + 1)) = joinS (S.take k) ++ (S.getD k noSl).l := by
  unfold joinS
  rw [List.take_succ_eq_append_getElem h, List.flatMap_append, List.getD_eq_getElem?_getD, List.getElem?_eq_getElem h]
  simp
theorem joinS_len (S : List Sl) (h : ∀ x ∈ S, x.l.length ≤ 100) : (joinS S).length ≤ S.length * 100 := by
  induction S with
  | nil => exact Nat.le_refl _
  | cons x S ih =>
    have h1 := h x List.mem_cons_self
    have h2 := ih (fun y hy => h y (List.mem_cons_of_mem _ hy))
    unfold joinS at h2 ⊢
    rw [List.flatMap_cons, List.length_append, List.length_cons]; omega
set_option maxRecDepth 100000 in
set_option maxHeartbeats 4000000 in
theorem concat_any (T : Nat) (S : List Sl) (cap : Nat) (W : World) (hS : S.length ≤ 5) (hk : ∀ k, k < S.length → SlOk W T k (S.getD k noSl)) :
    Calls Tryd.prog 29 #[.slice (some ⟨T, 0, none⟩) S.length cap] W fun e w' => ∃ v, e = .returned v ∧ RowC w' W.heap.size v (joinS S) ∧ Below W.heap.size W w' := by
  have HK := Lib.hid hk
  have KG := Lib.hid grow_nil
  have hall : ∀ x ∈ S, x.l.length ≤ 100 := fun x hx => by
    obtain ⟨i, hi, rfl⟩ := List.getElem_of_mem hx
    have := (hk i hi).n
    rw [List.getD_eq_getElem?_getD, List.getElem?_eq_getElem hi] at this
    exact this
  have HL : Hid (∀ k, (joinS (S.take k)).length ≤ 500) := fun k => by
    have := joinS_len (S.take k) (fun x hx => hall x (List.mem_of_mem_take hx))
    rw [List.length_take] at this
    omega
  have HT : Hid (joinS (S.take S.length) = joinS S) := by show _ = _; rw [List.take_length]
  clear hk hall
  go_enter Tryd.func29, Tryd.ntmps29
  go_wp2
  go_loopw [3, 11] (fun s i wr => ∃ k : Nat, k ≤ S.length ∧ i = .int .i64 k ∧ (∃ t : Nat, s = .int .i64 t ∧ Hid (t = (joinS (S.take k)).length)) ∧ wr = W) (fun _ i _ => S.length - (intOf i).toNat)
  case atStart => exact ⟨0, Nat.zero_le _, rfl, ⟨0, rfl, rfl⟩, rfl⟩
  case round =>
    obtain ⟨k, hk, rfl, ⟨t, rfl, ht⟩, hwx⟩ := hrel
    rename World => wa
    subst hwx
    have ht5 : t ≤ 500 := by rw [ht.out]; exact HL.out k
    by_cases hlt : k < S.length
    · have hk0 : (0 : Int) ≤ (k : Int) := by omega
      have hk1 : (k : Int) < (S.length : Int) := by omega
      have hx := HK.out k hlt
      have c0 := hx.c
      have HN : Hid (t + (S.getD k noSl).l.length = (joinS (S.take (k + 1))).length) := by show _ = _; rw [joinS_succ S k hlt, List.length_append, ht.out]
      have hl := hx.n
      clear hx ht
      generalize (S.getD k noSl).l.length = n at *
      go_wp2
      go_roundw
      case rel => exact ⟨k + 1, by omega, by go_num, ⟨t + n, by go_num, HN⟩, trivial⟩
      case measure => simp [intOf]; omega
    · have hk1 : (S.length : Int) ≤ (k : Int) := by omega
      have K1 := Lib.hid (KG.out t (by omega) wa)
      clear ht
      go_wp2_with fail
      refine K1.out.mono ?_
      rintro e w5 ⟨v, rfl, hr, hb⟩
      have R0 : Hid (RowC w5 wa.heap.size v (joinS (S.take 0))) := hr
      have B0 : Hid (Below wa.heap.size wa w5) := hb
      clear hr hb K1 KG
      go_wp2
      go_loopw [6, 27] (fun v i wr => ∃ k : Nat, k ≤ S.length ∧ i = .int .i64 k ∧ Hid (RowC wr wa.heap.size v (joinS (S.take k))) ∧ Hid (Below wa.heap.size wa wr)) (fun _ i _ => S.length - (intOf i).toNat)
      case atStart => exact ⟨0, Nat.zero_le _, rfl, R0, B0⟩
      case round =>
        obtain ⟨k2, hk2, rfl, R1, B1⟩ := hrel
        rename World => wb
        clear R0 B0
        by_cases hlt : k2 < S.length
        · have hk0 : (0 : Int) ≤ (k2 : Int) := by omega
          have hk1 : (k2 : Int) < (S.length : Int) := by omega
          have hx := HK.out k2 hlt
          have c0 := keep_cell B1.out hx.c
          have hm := hx.m.below B1.out
          have hz := hx.z
          have hn := hx.n
          have HJ := Lib.hid (joinS_succ S k2 hlt)
          have hl := HL.out k2
          have hBs := B1.out.size
          clear hx
          generalize joinS (S.take k2) = J at *
          generalize S.getD k2 noSl = x at *
          have HM := Lib.hid hm
          have HZ := Lib.hid hz
          clear hm hz
          go_wp2_with (at_builtin; refine append_cls rfl _ _ rfl wa.heap.size _ J x.a x.l x.c rfl R1.out rfl HM.out HZ.out (by omega) (by omega) hBs ?_)
          intro v' w6 r1 hg
          have B2 : Hid (Below wa.heap.size wa w6) := B1.out.grown hg hBs (fun g hgk => (R1.out.lt g hgk).1)
          have R2 : Hid (RowC w6 wa.heap.size v' (joinS (S.take (k2 + 1)))) := by rw [HJ.out]; exact r1
          clear r1 hg R1 B1 HJ HM HZ c0
          go_wp2
          go_roundw
          case rel => exact ⟨k2 + 1, by omega, by go_num, R2, B2⟩
          case measure => simp [intOf]; omega
        · have hke : k2 = S.length := by omega
          subst hke
          have hk1 : (S.length : Int) ≤ (S.length : Int) := Int.le_refl _
          rw [HT.out] at R1
          go_wp2
          go_ret
          exact ⟨_, rfl, R1.out, B1.out⟩
end Go.Proofs.YtgkpbchpjgkblaaDoor
