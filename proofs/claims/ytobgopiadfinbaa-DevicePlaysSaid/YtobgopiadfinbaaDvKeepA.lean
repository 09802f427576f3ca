/-
  fill, ref01.Has; what a crash keeps, sector by sector.
-/
import Derived.Test.YtobgopiadfinbaaDvTwo
namespace Go.Proofs.Ytobgopiadfinbaa
open Go.RowKit
theorem txt_pad (s : ByteArray) (h : s.size ≤ 64) : s ++ (txt blank64).extract s.size 64 = txt (pad s.data.toList) := by
  apply ByteArray.ext
  apply Array.toList_inj.1
  have e : (txt blank64).data.toList = List.replicate 64 0 := rfl
  rw [ByteArray.data_append, Array.toList_append, ByteArray.data_extract, Array.toList_extract, e]
  unfold txt pad
  have e2 : s.data.size = s.size := rfl
  simp only [Array.length_toList, e2]
  congr 1
  show ((List.replicate 64 (0 : UInt8)).drop s.size).take (64 - s.size) = _
  rw [List.drop_replicate, List.take_replicate]
  congr 1
  omega
set_option maxHeartbeats 1000000 in
theorem fill_any (s : ByteArray) (h : s.size ≤ 64) (W : World) : Calls Try.prog 19 #[.string s] W fun e w' => e = .returned (.string (txt (pad s.data.toList))) ∧ Below W.heap.size W w' := by
  have KB := Lib.hid (blank_any W)
  have hT : (txt blank64).size = 64 := rfl
  have hP := txt_pad s h
  have hx : ((txt blank64).extract s.size 64).size = 64 - s.size := by rw [ByteArray.size_extract, hT]; omega
  have h64 : (s.size : Int) ≤ 64 := by omega
  have h0 : (0 : Int) ≤ (s.size : Int) := by omega
  generalize txt blank64 = T at *
  generalize txt (pad s.data.toList) = V at *
  have hsum : ¬ 9223372036854775807 < s.size + (T.extract s.size 64).size := by omega
  go_enter Try.func19, Try.ntmps19
  go_wp2_with fail
  refine KB.out.mono ?_
  rintro e w1 ⟨rfl, hb⟩
  go_wp2
  go_ret
  exact ⟨rfl, hb⟩
set_option maxHeartbeats 1000000 in
theorem refHas_any (a : Option Addr) (ks : List Int) (c : Nat) (i : Int) (w : World) (hn : ks.length ≤ 1000) (ha : IntsAt w a ks) :
    Calls Try.prog 23 #[.slice a ks.length c, .int .i64 i] w fun e w' => e = .returned (.bool (ks.any fun z => z == i)) ∧ w = w' := by
  have HA := Lib.hid ha; clear ha
  go_enter Try.func23, Try.ntmps23
  go_wp2
  go_loop [5] (fun v => ∃ k : Nat, k ≤ ks.length ∧ v = .int .i64 k ∧ Hid (∀ m, m < k → (ks.getD m 0 == i) = false)) (fun v => ks.length - (intOf v).toNat)
  case atStart => exact ⟨0, Nat.zero_le _, rfl, fun m hm => by omega⟩
  case round =>
    obtain ⟨k, hk, rfl, hso⟩ := hrel
    by_cases hlt : k < ks.length
    · obtain ⟨b, off, rfl, hc0⟩ := HA.out.resolve_left (by intro e; rw [e] at hlt; simp at hlt)
      have hc := hc0 k hlt
      have HY : Hid ((ks.getD k 0 == i) = true → (ks.any fun z => z == i) = true) := fun hz => by
        rw [List.any_eq_true]
        exact ⟨ks.getD k 0, by rw [List.getD_eq_getElem?_getD, List.getElem?_eq_getElem hlt]; exact List.getElem_mem _, hz⟩
      have HN : Hid ((ks.getD k 0 == i) = false → ∀ m, m < k + 1 → (ks.getD m 0 == i) = false) := fun hz m hm => by
        rcases Nat.lt_or_ge m k with h' | h'
        · exact hso.out m h'
        · have : m = k := by omega
          rw [this]; exact hz
      clear hc0 hso
      have hk0 : (0 : Int) ≤ (k : Int) := by omega
      have hk1 : (k : Int) < (ks.length : Int) := by omega
      generalize ks.getD k 0 = z at hc HY HN
      cases hz : (z == i) with
      | true =>
        have HT := Lib.hid (HY.out hz)
        clear HY HN
        go_wp2
        go_ret
        exact ⟨ret_bool HT.out.symm, rfl⟩
      | false =>
        have HT := Lib.hid (HN.out hz)
        clear HY HN
        go_wp2
        go_round
        case rel => exact ⟨k + 1, by omega, by go_num, HT⟩
        case measure => simp [intOf]; omega
    · have HF : Hid ((ks.any fun z => z == i) = false) := by
        rw [Hid, List.any_eq_false]
        intro x hx
        obtain ⟨m, hm, rfl⟩ := List.getElem_of_mem hx
        have := hso.out m (by omega)
        rw [List.getD_eq_getElem?_getD, List.getElem?_eq_getElem hm] at this
        simpa using this
      go_wp2
      go_ret
      exact ⟨ret_bool HF.out.symm, rfl⟩
theorem keepLas_len (f : Int → Option (List UInt8)) (ks : List Int) : ∀ las : List (List UInt8), (keepLas f las ks).length = las.length := by
  unfold keepLas
  induction ks with
  | nil => intro las; rfl
  | cons z ks ih =>
    intro las
    rw [List.foldl_cons, ih]
    cases f z with
    | none => rfl
    | some l => exact List.length_set
/-- What a crash keeps: those sectors that are told, as they were written last. -/
theorem keepLas_getD {f : Int → Option (List UInt8)} {n : Nat} (hf : ∀ z l, f z = some l → 0 ≤ z ∧ z < (n : Int) ∧ l.length = 64) (ks : List Int) : ∀ (las : List (List UInt8)), las.length = n → ∀ j : Nat, j < n →
    (keepLas f las ks).getD j blank64 = if (ks.any fun z => z == (j : Int)) = true then secAt las f j else las.getD j blank64 := by
  induction ks with
  | nil => intro las _ j _; rfl
  | cons z ks ih =>
    intro las hl j hj
    have hst : keepLas f las (z :: ks) = keepLas f (match f z with
      | some l => las.set z.toNat l
      | none => las) ks := rfl
    rw [hst]
    cases hfz : f z with
    | none =>
      show (keepLas f las ks).getD j blank64 = _
      rw [ih las hl j hj, List.any_cons]
      by_cases e : z = (j : Int)
      · have h1 : (z == (j : Int)) = true := by rw [beq_iff_eq]; exact e
        rw [h1, Bool.true_or, if_pos rfl]
        unfold secAt
        rw [← e, hfz]
        split <;> rfl
      · have h1 : (z == (j : Int)) = false := by rw [beq_eq_false_iff_ne]; exact e
        rw [h1, Bool.false_or]
    | some l =>
      obtain ⟨q0, q1, q2⟩ := hf z l hfz
      obtain ⟨q, rfl⟩ := Int.eq_ofNat_of_zero_le q0
      show (keepLas f (las.set (q : Int).toNat l) ks).getD j blank64 = _
      rw [ih _ (by rw [List.length_set]; exact hl) j hj, List.any_cons, Int.toNat_natCast]
      have hg : (las.set q l).getD j blank64 = if j = q then l else las.getD j blank64 := by
        simp only [List.getD_eq_getElem?_getD, List.getElem?_set]
        by_cases e : q = j
        · subst e; simp [hl, hj]
        · rw [if_neg e, if_neg (fun x => e x.symm)]
      have hs : secAt (las.set q l) f j = secAt las f j := by
        unfold secAt
        cases hfj : f (j : Int) with
        | some m => rfl
        | none =>
          have : j ≠ q := fun e => by rw [e] at hfj; rw [hfj] at hfz; cases hfz
          show (las.set q l).getD j blank64 = las.getD j blank64
          rw [hg, if_neg this]
      rw [hs, hg]
      by_cases e : j = q
      · subst e
        have h1 : ((j : Int) == (j : Int)) = true := by rw [beq_iff_eq]
        have h2 : secAt las f j = l := by unfold secAt; rw [hfz]
        rw [h1, Bool.true_or, if_pos rfl, if_pos rfl, h2]
        split <;> rfl
      · have h1 : ((q : Int) == (j : Int)) = false := by rw [beq_eq_false_iff_ne]; omega
        rw [h1, Bool.false_or, if_neg e]
end Go.Proofs.Ytobgopiadfinbaa
