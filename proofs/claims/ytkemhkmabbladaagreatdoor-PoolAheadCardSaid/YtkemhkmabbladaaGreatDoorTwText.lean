/-
  THE CONTRACT OF twice's text: what stands in four sectors.
-/
import Derived.Test.YtkemhkmabbladaaGreatDoorTwBlank
namespace Go.Proofs.YtkemhkmabbladaaGreatDoor
open Go.RowKit
/-- Four texts in a row. -/
structure Ar4 (W : World) (A : Nat) (t : Nat → ByteArray) : Prop where
  c : ∀ j, j < 4 → W.cell? ⟨A, j, none⟩ = some (.string (t j))
  f : ∀ j, W.frozen? ⟨A, j, none⟩ = false
theorem Ar4.below {W X : World} {A : Nat} {t : Nat → ByteArray} (h : Ar4 W A t) (hb : Below W.heap.size W X) : Ar4 X A t where
  c := fun j hj => Dv.keep_cell hb (h.c j hj)
  f := fun j => (hb.frozen (p := ⟨A, j, none⟩) (Dv.block_lt (p := ⟨A, 0, none⟩) (h.c 0 (by omega)))).trans (h.f j)
theorem Ar4.set {W : World} {A : Nat} {t : Nat → ByteArray} (h : Ar4 W A t) (k : Nat) (hk : k < 4) (x : ByteArray) : Ar4 (W.setCell ⟨A, k, none⟩ (.string x)) A (fun j => if j = k then x else t j) where
  c := fun j hj => by
    by_cases e : j = k
    · subst e; rw [if_pos rfl]; exact World.cell?_setCell_same _ _ _ (h.c j hj)
    · rw [if_neg e, World.cell?_setCell_other _ _ _ _ (fun x => by injection x with _ x; exact e x.symm)]; exact h.c j hj
  f := fun j => by rw [World.frozen?_setCell]; exact h.f j
set_option maxRecDepth 100000 in
theorem slice_ar4 (W : World) (b : Nat) : (Instr.sliceAt 117 (.pointer (some ⟨b, 0, none⟩)) none none none).run Tryz.prog W = .ok (.slice (some ⟨b, 0, none⟩) 4 4) W := by
  have hA : Tryz.prog.arrayLen 117 = 4 := by kernel_rfl
  have hsl := run_sliceAt_array_all (P := Tryz.prog) W 117 ⟨b, 0, none⟩ (by kernel_rfl)
  rw [hA] at hsl
  have he : (sizeOf (Tryz.prog.elem 117)).run Tryz.prog W = .ok 1 W := Tryz.sizeOf9 W
  rw [he] at hsl
  simp only [Result.andThen, slicedAt] at hsl
  rw [hsl, if_neg (by omega), Addr.add_mid]
theorem txt4_join (g : Nat → List UInt8) (a : Nat) : (⟨(joined [Dv.txt (g a), Dv.txt (g (a + 1)), Dv.txt (g (a + 2)), Dv.txt (g (a + 3))]).toArray⟩ : ByteArray) = txt4 g a := by
  unfold joined txt4 bstr Dv.txt
  simp
section
variable {w W : World} {D P L M n B T pages : Nat} {s : Ds}
theorem rdV_on (h : s.pm ≠ .off) (j : Nat) : rdV s j = .tuple #[.string (Dv.txt (vw s j)), .int .i64 0] := by
  unfold rdV
  cases hp : s.pm with
  | off => exact absurd hp h
  | on => rfl
  | arm i => rfl
theorem rdV_off (h : s.pm = .off) (j : Nat) : rdV s j = .tuple #[.string ⟨#[]⟩, .int .i64 6] := by
  unfold rdV; rw [h]
set_option maxRecDepth 100000 in
set_option maxHeartbeats 4000000 in
theorem text_s (h : TwS w W D P L M n B T pages s) (hon : s.pm ≠ .off) (a : Nat) (ha : a + 4 ≤ n) (hn : n ≤ 4096) :
    Calls Tryz.prog 36 #[.pointer (some ⟨T, 0, none⟩), .int .i64 (a : Int)] W fun x w' => x = .returned (.tuple #[.string (txt4 (vw s) a), .int .i64 0]) ∧ Below W.heap.size W w' := by
  have hba := (Below.refl W.heap.size W).alloc (Nat.le_refl _) (.cells #[.string ⟨#[]⟩, .string ⟨#[]⟩, .string ⟨#[]⟩, .string ⟨#[]⟩] 117)
  have A0 : Hid (Ar4 (W.alloc (.cells #[.string ⟨#[]⟩, .string ⟨#[]⟩, .string ⟨#[]⟩, .string ⟨#[]⟩] 117)) W.heap.size (fun _ => ⟨#[]⟩)) := ⟨fun j hj => by
    match j, hj with
    | 0, _ => exact Dv.new_cell rfl rfl
    | 1, _ => exact Dv.new_cell rfl rfl
    | 2, _ => exact Dv.new_cell rfl rfl
    | 3, _ => exact Dv.new_cell rfl rfl, fun _ => World.frozen?_alloc_at _ _ _ _ rfl⟩
  have H0 := Lib.hid h
  have B0 := Lib.hid hba
  have hl := h.d.vlen
  have a0 : (0 : Int) ≤ (a : Int) := by omega
  have a1 : (a : Int) ≤ 4096 := by omega
  clear h hba
  obtain ⟨R, hR⟩ : ∃ R, R = txt4 (vw s) a := ⟨_, rfl⟩
  rw [← hR]
  have HR := Lib.hid hR
  clear hR
  go_enter Tryz.func36, Tryz.ntmps36
  go_upto_region 2 with fail
  generalize W.alloc (.cells #[.string ⟨#[]⟩, .string ⟨#[]⟩, .string ⟨#[]⟩, .string ⟨#[]⟩] 117) = X at *
  obtain ⟨A, hA⟩ : ∃ A, A = W.heap.size := ⟨_, rfl⟩
  rw [← hA] at A0 ⊢
  have HAe := Lib.hid hA
  clear hA
  go_wp2
  go_loopw [10] (fun i wr => ∃ (k : Nat) (t : Nat → ByteArray), k ≤ 4 ∧ i = .int .i64 k ∧ Hid (Ar4 wr A t) ∧ Hid (∀ j, j < k → t j = Dv.txt (vw s (a + j))) ∧ Hid (Below W.heap.size W wr)) (fun i _ => 4 - (intOf i).toNat)
  case atStart => exact ⟨0, _, Nat.zero_le _, rfl, A0, (fun j hj => by omega : ∀ j, j < 0 → _ = Dv.txt (vw s (a + j))), B0⟩
  case round =>
    obtain ⟨k, t, hk, rfl, HA, ht, HB⟩ := hrel
    rename World => wa
    clear A0 B0
    have HS := Lib.hid (H0.out.below HB.out)
    have hk0 : (0 : Int) ≤ (k : Int) := by omega
    by_cases hlt : k < 4
    · have hk1 : (k : Int) < 4 := by omega
      obtain ⟨j, hj⟩ : ∃ j, j = a + k := ⟨_, rfl⟩
      have e0 : IntKind.i64.wrap ((a : Int) + (k : Int)) = (j : Int) := by rw [IntWalk.i64_in _ (by omega)]; omega
      have KR := Lib.hid (read_s HS.out.d j (by omega) hn)
      rw [rdV_on hon] at KR
      obtain ⟨v, hv⟩ : ∃ v, v = Dv.txt (vw s j) := ⟨_, rfl⟩
      rw [← hv] at KR
      have Hv := Lib.hid hv
      have Hj := Lib.hid hj
      clear hv hj
      have hcell := HS.out.t0
      go_wp2_with fail
      refine KR.out.mono ?_
      rintro x w1 ⟨rfl, hb1⟩
      have HA1 := Lib.hid (HA.out.below hb1)
      have HB1 := Lib.hid (HB.out.trans (hb1.mono HB.out.size))
      have hc := HA1.out.c k hlt
      have hf := HA1.out.f
      clear hb1 HA HS HB KR hcell e0
      have HA2 := Lib.hid (HA1.out.set k hlt v)
      have hset : Below W.heap.size W (w1.setCell ⟨A, k, none⟩ (.string v)) := HB1.out.setCell (by show W.heap.size ≤ A; have := HAe.out; omega) _
      have HB2 := Lib.hid hset
      clear HA1 HB1 hset
      go_wp2
      go_roundw
      case rel =>
        refine ⟨k + 1, _, by omega, by go_num, HA2, (show ∀ i, i < k + 1 → _ from fun i hi => ?_), HB2⟩
        by_cases e : i = k
        · subst e; rw [if_pos rfl, Hv.out, Hj.out]
        · rw [if_neg e]; exact ht.out i (by omega)
      case measure => simp [intOf]; omega
    · have hk4 : k = 4 := by omega
      have hk1 : (4 : Int) ≤ (k : Int) := by omega
      have hss : StrsAt wa (some ⟨A, 0, none⟩) [Dv.txt (vw s a), Dv.txt (vw s (a + 1)), Dv.txt (vw s (a + 2)), Dv.txt (vw s (a + 3))] := .inr ⟨A, 0, rfl, fun j hj => by
        rw [Nat.zero_add, HA.out.c j (by simpa using hj), ht.out j (Nat.lt_of_lt_of_le (show j < 4 from hj) (by omega))]
        match j, hj with
        | 0, _ => rfl
        | 1, _ => rfl
        | 2, _ => rfl
        | 3, _ => rfl⟩
      have hlen : (joined [Dv.txt (vw s a), Dv.txt (vw s (a + 1)), Dv.txt (vw s (a + 2)), Dv.txt (vw s (a + 3))]).length ≤ 140737488355328 := by
        have e : ∀ j, j < n → (Dv.txt (vw s j)).data.toList.length = 64 := fun j hj => hl j hj
        unfold joined
        simp only [List.flatMap_cons, List.flatMap_nil, List.length_append, List.length_nil]
        rw [e a (by omega), e (a + 1) (by omega), e (a + 2) (by omega), e (a + 3) (by omega)]
        omega
      have KJ := Lib.hid (join_any (some ⟨A, 0, none⟩) _ 4 wa hss (Nat.le_refl _) (by show 4 ≤ _; omega) hlen)
      rw [txt4_join, ← HR.out, show ([Dv.txt (vw s a), Dv.txt (vw s (a + 1)), Dv.txt (vw s (a + 2)), Dv.txt (vw s (a + 3))] : List ByteArray).length = 4 from rfl] at KJ
      have ksl := slice_ar4 wa A
      clear hss hlen HA ht HS hl
      go_wp2_with fail
      refine KJ.out.mono ?_
      rintro x w2 ⟨rfl, hb2⟩
      have HB2 := Lib.hid (HB.out.trans (hb2.mono HB.out.size))
      clear hb2 HB KJ ksl
      go_wp2
      go_ret2
      exact ⟨rfl, HB2.out⟩
end
end Go.Proofs.YtkemhkmabbladaaGreatDoor
