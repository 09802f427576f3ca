/-
  THE CONTRACT OF record's taker: a value.
-/
import Derived.Test.YtlggbbaigcnpjaaDoorRcTaker
namespace Go.Proofs.YtlggbbaigcnpjaaDoor
open Go.RowKit

theorem TkPost.fresh {G R : Nat} {W X : World} {r : ByteArray} {b : Bool} (h : TkPost G W X r b) (hG : G < W.heap.size) (hR : W.heap.size ≤ R) (i : Nat) (v : Value) : TkPost G W (X.setCell ⟨R, i, none⟩ v) r b where
  cell0 := by rw [World.cell?_setCell_other _ _ _ _ (fun e => by injection e with e1 _; omega)]; exact h.cell0
  cell1 := by rw [World.cell?_setCell_other _ _ _ _ (fun e => by injection e with e1 _; omega)]; exact h.cell1
  froz := fun i => by rw [World.frozen?_setCell]; exact h.froz i
  keep := fun p v hp hv => by
    have hb := block_lt hv
    rw [World.cell?_setCell_other _ _ _ _ (fun e => by have : R = p.block := by rw [← e]
                                                       omega)]
    exact h.keep p v hp hv
  keepf := fun p hp => by rw [World.frozen?_setCell]; exact h.keepf p hp
  size := by have := h.size; simpa [World.setCell] using this
  bel := fun B w0 h0 hB => (h.bel B w0 h0 hB).setCell (by show B ≤ R; omega) _
theorem TkPost.ofAlloc {G : Nat} {W X : World} {o : Obj} {r : ByteArray} {b : Bool} (h : TkPost G (W.alloc o) X r b) (hG : G < W.heap.size) : TkPost G W X r b where
  cell0 := h.cell0
  cell1 := h.cell1
  froz := h.froz
  keep := fun p v hp hv => h.keep p v hp (keep_alloc hv)
  keepf := fun p hp => (h.keepf p (by rw [World.size_alloc]; omega)).trans (World.frozen?_alloc_old _ _ _ (by omega))
  size := Nat.le_trans (by rw [World.size_alloc]; omega) h.size
  bel := fun B w0 h0 hB => h.bel B w0 (h0.alloc (by omega) _) hB

theorem numOf_byte {s : ByteArray} {b : Bool} : 0 ≤ (numOf s b 1).1 ∧ (numOf s b 1).1 ≤ 255 := by
  unfold numOf
  cases h : takeOf s 1 with
  | none =>
    show (0 : Int) ≤ 0 ∧ (0 : Int) ≤ 255
    omega
  | some p =>
    obtain ⟨n, r⟩ := p
    unfold takeOf at h
    split at h
    · simp only [Option.some.injEq, Prod.mk.injEq] at h
      obtain ⟨rfl, _⟩ := h
      have := beVal_lt (s.data.toList.take (1 : Int).toNat)
      have hl : (s.data.toList.take (1 : Int).toNat).length ≤ 1 := by rw [List.length_take]; exact Nat.min_le_left _ _
      have h2 : 256 ^ (s.data.toList.take (1 : Int).toNat).length ≤ 256 ^ 1 := Nat.pow_le_pow_right (by omega) hl
      show (0 : Int) ≤ ((beVal _ : Nat) : Int) ∧ ((beVal _ : Nat) : Int) ≤ 255
      omega
    · cases h
theorem numOf_rest {s : ByteArray} {b : Bool} {K : Int} : (numOf s b K).2.1.size ≤ s.size := by
  unfold numOf
  cases h : takeOf s K with
  | none => exact Nat.le_refl _
  | some p =>
    obtain ⟨n, r⟩ := p
    unfold takeOf at h
    split at h
    · simp only [Option.some.injEq, Prod.mk.injEq] at h
      obtain ⟨_, rfl⟩ := h
      show (s.extract _ _).size ≤ _
      rw [ByteArray.size_extract]; omega
    · cases h
/-- A value that is taken, what is left, and whether it is short. -/
def valOf (s : ByteArray) (b : Bool) : (Bool × ByteArray) × ByteArray × Bool :=
  if (numOf s b 1).1 = 0 then ((false, ⟨#[]⟩), (numOf s b 1).2.1, (numOf s b 1).2.2)
  else ((true, (textOf (numOf s b 1).2.1 (numOf s b 1).2.2 ((numOf s b 1).1.toNat - 1)).1), (textOf (numOf s b 1).2.1 (numOf s b 1).2.2 ((numOf s b 1).1.toNat - 1)).2)
set_option maxHeartbeats 2000000 in
theorem value_at (G : Nat) (s : ByteArray) (b : Bool) (W : World) (hs : s.size ≤ 140737488355328)
    (c0 : W.cell? ⟨G, 0, none⟩ = some (.string s)) (c1 : W.cell? ⟨G, 1, none⟩ = some (.bool b)) (hf : ∀ i, W.frozen? ⟨G, i, none⟩ = false) :
    Calls Tryd.prog 21 #[.pointer (some ⟨G, 0, none⟩)] W fun e w' => e = .returned (.agg #[.bool (valOf s b).1.1, .string (valOf s b).1.2]) ∧ TkPost G W w' (valOf s b).2.1 (valOf s b).2.2 := by
  have hG : G < W.heap.size := block_lt c0
  have hb := numOf_byte (s := s) (b := b)
  have hr := numOf_rest (s := s) (b := b) (K := 1)
  have HV : Hid (valOf s b = if (numOf s b 1).1 = 0 then ((false, ⟨#[]⟩), (numOf s b 1).2.1, (numOf s b 1).2.2) else ((true, (textOf (numOf s b 1).2.1 (numOf s b 1).2.2 ((numOf s b 1).1.toNat - 1)).1), (textOf (numOf s b 1).2.1 (numOf s b 1).2.2 ((numOf s b 1).1.toNat - 1)).2)) := rfl
  have KN := Lib.hid (fun X h0 h1 h2 => number_at G s b 1 X (by omega) hs h0 h1 h2)
  generalize valOf s b = V at HV ⊢
  generalize numOf s b 1 = N at HV KN hb hr
  obtain ⟨n, r, c⟩ := N
  replace hr : r.size ≤ s.size := hr
  obtain ⟨hb1, hb2⟩ : 0 ≤ n ∧ n ≤ 255 := hb
  obtain ⟨m, rfl⟩ := Int.eq_ofNat_of_zero_le hb1
  have a0 := fun o => keep_alloc (o := o) c0
  have a1 := fun o => keep_alloc (o := o) c1
  have af : ∀ cs T i, (W.alloc (.cells cs T)).frozen? ⟨G, i, none⟩ = false := fun cs T i => (World.frozen?_alloc_old _ _ _ (Nat.ne_of_lt hG)).trans (hf i)
  have hne : W.heap.size ≠ G := by omega
  by_cases hm : m = 0
  · subst hm
    replace HV : Hid (V = ((false, ⟨#[]⟩), r, c)) := HV
    go_enter Tryd.func21, Tryd.ntmps21
    go_wp2_with fail
    refine (KN.out _ (a0 _) (a1 _) (af _ _)).mono ?_
    rintro x w1 ⟨rfl, P⟩
    have z0 : w1.cell? ⟨W.heap.size, 0, none⟩ = some (.bool false) := P.keep _ _ hne (new_cell rfl rfl)
    have z1 : w1.cell? ⟨W.heap.size, 1, none⟩ = some (.string ⟨#[]⟩) := P.keep _ _ hne (new_cell rfl rfl)
    have zf : ∀ i, w1.frozen? ⟨W.heap.size, i, none⟩ = false := fun i => (P.keepf ⟨W.heap.size, i, none⟩ (by rw [World.size_alloc]; exact Nat.lt_succ_self _)).trans (World.frozen?_alloc_at _ _ _ _ rfl)
    have HP := Lib.hid (P.ofAlloc hG); clear P KN c0 c1 hf a0 a1 af
    go_wp2
    obtain ⟨Y, hY, y0, y1⟩ : ∃ Y, Y = (w1.setCell ⟨W.heap.size, 0, none⟩ (.bool false)).setCell ⟨W.heap.size, 1, none⟩ (.string ⟨#[]⟩) ∧ Y.cell? ⟨W.heap.size, 0, none⟩ = some (.bool false) ∧ Y.cell? ⟨W.heap.size, 1, none⟩ = some (.string ⟨#[]⟩) := by
      have e01 : (⟨W.heap.size, 1, none⟩ : Addr) ≠ ⟨W.heap.size, 0, none⟩ := fun e => by injection e with _ e2; exact absurd e2 (by decide)
      have e10 : (⟨W.heap.size, 0, none⟩ : Addr) ≠ ⟨W.heap.size, 1, none⟩ := fun e => by injection e with _ e2; exact absurd e2 (by decide)
      refine ⟨_, rfl, ?_, ?_⟩
      · rw [World.cell?_setCell_other _ _ _ _ e01]; exact World.cell?_setCell_same _ _ _ z0
      · exact World.cell?_setCell_same _ _ _ ((World.cell?_setCell_other _ _ _ _ e10).trans z1)
    have HY : Hid (TkPost G W Y r c) := by rw [hY]; exact (HP.out.fresh hG (Nat.le_refl _) 0 _).fresh hG (Nat.le_refl _) 1 _
    rw [← hY]
    refine bodyPost_ret (v := .agg #[.bool false, .string ⟨#[]⟩]) ?_ rfl ⟨by rw [HV.out], by rw [HV.out]; exact HY.out⟩
    simp [results, Tryd.results21, go_sem, y0, y1]
  · have hnz : ¬ ((m : Int) = 0) := by omega
    replace HV : Hid (V = ((true, (textOf r c (m - 1)).1), (textOf r c (m - 1)).2)) := by rw [Hid]; exact HV.trans (if_neg hnz)
    have KT := Lib.hid (fun X h0 h1 h2 => text_at G r c (m - 1) X (by omega) (by omega) h0 h1 h2)
    generalize textOf r c (m - 1) = T at HV KT
    obtain ⟨x, r2, c2⟩ := T
    have hsub : IntKind.i64.wrap ((m : Int) - 1) = ((m - 1 : Nat) : Int) := by rw [IntKind.wrap_i64]; omega
    have hmb : ((m : Int) == 0) = false := by rw [beq_eq_false_iff_ne]; omega
    have KH := Lib.hid (fun X => has_any x X)
    clear hm hnz hb1
    go_enter Tryd.func21, Tryd.ntmps21
    go_wp2_with fail
    refine (KN.out _ (a0 _) (a1 _) (af _ _)).mono ?_
    rintro e1 w1 ⟨rfl, P⟩
    have q0 := P.cell0
    have q1 := P.cell1
    have qf := P.froz
    have HP := Lib.hid P; clear P KN c0 c1 hf a0 a1
    go_wp2_with fail
    refine (KT.out _ q0 q1 qf).mono ?_
    rintro e2 w2 ⟨rfl, P2⟩
    have HP2 := Lib.hid (HP.out.trans P2); clear P2 KT q0 q1 qf HP
    go_wp2_with fail
    refine (KH.out _).mono ?_
    rintro e3 w3 ⟨rfl, hb3⟩
    have P3 := HP2.out.below hb3
    have z0 : w3.cell? ⟨W.heap.size, 0, none⟩ = some (.bool false) := P3.keep _ _ hne (new_cell rfl rfl)
    have z1 : w3.cell? ⟨W.heap.size, 1, none⟩ = some (.string ⟨#[]⟩) := P3.keep _ _ hne (new_cell rfl rfl)
    have zf : ∀ i, w3.frozen? ⟨W.heap.size, i, none⟩ = false := fun i => (P3.keepf ⟨W.heap.size, i, none⟩ (by rw [World.size_alloc]; exact Nat.lt_succ_self _)).trans (World.frozen?_alloc_at _ _ _ _ rfl)
    have HP := Lib.hid (P3.ofAlloc hG); clear P3 KH hb3 HP2 af
    go_wp2
    obtain ⟨Y, hY, y0, y1⟩ : ∃ Y, Y = (w3.setCell ⟨W.heap.size, 0, none⟩ (.bool true)).setCell ⟨W.heap.size, 1, none⟩ (.string x) ∧ Y.cell? ⟨W.heap.size, 0, none⟩ = some (.bool true) ∧ Y.cell? ⟨W.heap.size, 1, none⟩ = some (.string x) := by
      have e01 : (⟨W.heap.size, 1, none⟩ : Addr) ≠ ⟨W.heap.size, 0, none⟩ := fun e => by injection e with _ e2; exact absurd e2 (by decide)
      have e10 : (⟨W.heap.size, 0, none⟩ : Addr) ≠ ⟨W.heap.size, 1, none⟩ := fun e => by injection e with _ e2; exact absurd e2 (by decide)
      refine ⟨_, rfl, ?_, ?_⟩
      · rw [World.cell?_setCell_other _ _ _ _ e01]; exact World.cell?_setCell_same _ _ _ z0
      · exact World.cell?_setCell_same _ _ _ ((World.cell?_setCell_other _ _ _ _ e10).trans z1)
    have HY : Hid (TkPost G W Y r2 c2) := by rw [hY]; exact (HP.out.fresh hG (Nat.le_refl _) 0 _).fresh hG (Nat.le_refl _) 1 _
    rw [← hY]
    refine bodyPost_ret (v := .agg #[.bool true, .string x]) ?_ rfl ⟨by rw [HV.out], by rw [HV.out]; exact HY.out⟩
    simp [results, Tryd.results21, go_sem, y0, y1]
end Go.Proofs.YtlggbbaigcnpjaaDoor
