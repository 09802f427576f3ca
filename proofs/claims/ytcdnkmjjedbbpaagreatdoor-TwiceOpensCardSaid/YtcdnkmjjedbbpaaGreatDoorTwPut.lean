/-
  THE CONTRACTS OF a device's Put, as a state, and of law 12's put: four sectors laid as they are told.
-/
import Derived.Test.YtcdnkmjjedbbpaaGreatDoorTwStoresB
import Derived.Test.YtcdnkmjjedbbpaaGreatDoorHvPut
namespace Go.Proofs.YtcdnkmjjedbbpaaGreatDoor
open Go.RowKit
def zs (n : Nat) : List UInt8 := List.replicate n 0
theorem run_zeros (n : Nat) (hn : n ≤ 1000) (W : World) : (Instr.makeSlice 45 (.int .i64 (n : Int)) (.int .i64 (n : Int))).run Tryz.prog W = .ok (.slice (some ⟨W.heap.size, 0, none⟩) n n) (W.alloc (.cells (Dv.secC (zs n)).toArray 5)) := by
  have hinfo : (Tryz.prog.info? 5).map (fun i => (i.zero, i.size, i.bytes)) = some (some (.int .u8 0), 1, 1) := by kernel_rfl
  obtain ⟨i, hi, hzz⟩ := Option.map_eq_some_iff.1 hinfo
  simp only [Prod.mk.injEq] at hzz
  obtain ⟨hz, hs, hb⟩ := hzz
  have hr := run_make (P := Tryz.prog) W 45 5 i (.int .u8 0) Tryz.underlying45 hi hz .i64 .i64 (n : Int) (n : Int) (by omega) (Int.le_refl _) (by rw [hb]; omega) (by omega)
  have hm : madeCells (Value.int .u8 0).cells ((n : Int).toNat * i.size) = (Dv.secC (zs n)).toArray := by
    rw [hs, Int.toNat_natCast, Nat.mul_one]
    apply Array.ext'
    rw [show (Value.int .u8 0).cells = #[Value.int .u8 0] from rfl, toList_madeCells_one]
    unfold Dv.secC Lib.byteCells zs
    simp
  rw [hm, Int.toNat_natCast] at hr
  exact hr
theorem conv_zeros (n : Nat) (W : World) : (convert 45 9 (.slice (some ⟨W.heap.size, 0, none⟩) n n)).run Tryz.prog (W.alloc (.cells (Dv.secC (zs n)).toArray 5)) = .ok (.string (bstr (zs n))) (W.alloc (.cells (Dv.secC (zs n)).toArray 5)) := by
  have hr := run_convert_bytes_back (W.alloc (.cells (Dv.secC (zs n)).toArray 5)) 45 9 5 ⟨W.heap.size, 0, none⟩ n (zs n) Tryz.underlying45 Tryz.underlying5 Tryz.underlying9 (fun j hj => by
    rw [Addr.add_mid]
    exact Dv.row_range (T := 5) (Dv.hp_new rfl) j _ (by unfold Dv.secC Lib.byteCells; rw [List.getElem?_map, List.getElem?_eq_getElem hj]; rfl))
  rw [show (zs n).length = n by unfold zs; simp] at hr
  exact hr
def updG (g : Nat → List UInt8) (i : Nat) (l : List UInt8) : Nat → List UInt8 := fun j => if j = i then l else g j
section
variable {w W : World} {D P L M n B : Nat} {g : Nat → List UInt8}
theorem put_s (h : DvB w W D P L M n B ⟨.on, g, fun _ => none⟩) (hn : n ≤ 4096) (i : Nat) (hi : i < n) (s : ByteArray) (hs : s.size ≤ 64) :
    Calls Tryz.prog 16 #[.pointer (some ⟨D, 0, none⟩), .int .i64 (i : Int), .string s] W fun x w' => x = .returned (.int .i64 0) ∧ DvB w w' D P L M n B ⟨.on, updG g i (Dv.pad s.data.toList), fun _ => none⟩ ∧ Dv.Fr3 P L M W w' := by
  obtain ⟨k, off, uses, armed, left, las, hd, hb, hpm, hg, hf⟩ := h.d
  refine (Dv.put_fr hd i hi hn s hs).mono ?_
  rintro x w' ⟨rfl, hd2, hfr⟩
  have hu : Dv.upd (fun _ => none) (i : Int) none = (fun _ => none : Int → Option (List UInt8)) := by
    funext z; unfold Dv.upd; split <;> rfl
  change Dv.DevAt w' D P L M n k off uses armed left (las.set i (Dv.pad s.data.toList)) (Dv.upd (fun _ => none) (i : Int) none) at hd2
  rw [hu] at hd2
  refine ⟨rfl, h.next ⟨k, off, uses, armed, left, _, hd2, hb, hpm, fun j hj => ?_, none_ok⟩ hfr, hfr⟩
  show (las.set i (Dv.pad s.data.toList)).getD j Dv.blank64 = updG g i (Dv.pad s.data.toList) j
  unfold updG
  rw [List.getD_eq_getElem?_getD, List.getElem?_set]
  by_cases e : i = j
  · subst e
    rw [if_pos rfl, if_pos (by rw [hd.ll]; exact hi), if_pos rfl]; rfl
  · rw [if_neg e, if_neg (fun x => e x.symm), ← List.getD_eq_getElem?_getD]
    exact hg j hj
/-- A text with 00s behind. -/
def pad256 (s : ByteArray) : ByteArray := s ++ bstr (zs (256 - s.size))
theorem pad256_size {s : ByteArray} (h : s.size ≤ 256) : (pad256 s).size = 256 := by
  unfold pad256
  rw [ByteArray.size_append, bstr_size]
  unfold zs
  rw [List.length_replicate]; omega
/-- Four sectors put. -/
def putG (g : Nat → List UInt8) (a : Nat) (b : ByteArray) (k : Nat) : Nat → List UInt8 := fun j => if a ≤ j ∧ j < a + k then sec b (j - a) else g j
theorem putG_step (g : Nat → List UInt8) (a : Nat) (b : ByteArray) (k : Nat) : updG (putG g a b k) (a + k) (sec b k) = putG g a b (k + 1) := by
  funext j
  unfold updG putG
  by_cases e : j = a + k
  · subst e
    rw [if_pos rfl, if_pos (by omega)]
    congr 1
    omega
  · rw [if_neg e]
    by_cases h : a ≤ j ∧ j < a + k
    · rw [if_pos h, if_pos (by omega)]
    · rw [if_neg h, if_neg (by omega)]
theorem putG_zero (g : Nat → List UInt8) (a : Nat) (b : ByteArray) : putG g a b 0 = g := by
  funext j; unfold putG; rw [if_neg (by omega)]
set_option maxRecDepth 100000 in
set_option maxHeartbeats 4000000 in
theorem put12_any (h : DvB w W D P L M n B ⟨.on, g, fun _ => none⟩) (hn : n ≤ 4096) (a : Nat) (ha : a + 4 ≤ n) (s : ByteArray) (hs : s.size ≤ 256) :
    Calls Tryz.prog 17 #[.pointer (some ⟨D, 0, none⟩), .int .i64 (a : Int), .string s] W fun x w' => x = .returned (.string (pad256 s)) ∧ DvB w w' D P L M n B ⟨.on, putG g a (pad256 s) 4, fun _ => none⟩ ∧ Dv.Fr3 P L M W w' := by
  obtain ⟨m, hm⟩ : ∃ m, m = 256 - s.size := ⟨_, rfl⟩
  have h1 := run_zeros m (by omega) W
  have h2 := conv_zeros m W
  have hba := (Below.refl W.heap.size W).alloc (Nat.le_refl _) (.cells (Dv.secC (zs m)).toArray 5)
  have S0 : Hid (DvB w (W.alloc (.cells (Dv.secC (zs m)).toArray 5)) D P L M n B ⟨.on, putG g a (pad256 s) 0, fun _ => none⟩) := by
    rw [Hid, putG_zero]; exact h.below hba
  have F0 := Lib.hid (Dv.Fr3.of_below (P := P) (L := L) (M := M) hba)
  have hsz := pad256_size hs
  have hb : pad256 s = s ++ bstr (zs m) := by rw [hm]; rfl
  have hzz : (bstr (zs m)).size = m := by rw [bstr_size]; unfold zs; rw [List.length_replicate]
  have e0 : IntKind.i64.wrap (256 - (s.size : Int)) = (m : Int) := by rw [IntWalk.i64_in _ (by omega)]; omega
  have a0 : (a : Int) ≤ 4096 := by omega
  have a1 : (0 : Int) ≤ (a : Int) := by omega
  obtain ⟨b, hbb⟩ : ∃ b, b = pad256 s := ⟨_, rfl⟩
  rw [← hbb] at hsz hb S0 ⊢
  have hcat : ¬ 9223372036854775807 < s.size + (bstr (zs m)).size := by omega
  clear h hba hm hbb
  generalize bstr (zs m) = z at *
  have HBB := Lib.hid hb
  clear hb hzz
  generalize hX : W.alloc (.cells (Dv.secC (zs m)).toArray 5) = X at *
  go_enter Tryz.func17, Tryz.ntmps17
  go_wp2
  rw [← HBB.out]
  clear h1 h2 e0 hX hcat HBB
  go_loopw [8] (fun i wr => ∃ k : Nat, k ≤ 4 ∧ i = .int .i64 k ∧ Hid (DvB w wr D P L M n B ⟨.on, putG g a b k, fun _ => none⟩) ∧ Hid (Dv.Fr3 P L M W wr)) (fun i _ => 4 - (intOf i).toNat)
  case atStart => exact ⟨0, Nat.zero_le _, rfl, S0, F0⟩
  case round =>
    obtain ⟨k, hk, rfl, HS, HF⟩ := hrel
    rename World => wa
    clear S0 F0
    have hk0 : (0 : Int) ≤ (k : Int) := by omega
    by_cases hlt : k < 4
    · have hk1 : (k : Int) < 4 := by omega
      obtain ⟨j, hj⟩ : ∃ j, j = a + k := ⟨_, rfl⟩
      obtain ⟨q, hq⟩ : ∃ q, q = 64 * k := ⟨_, rfl⟩
      obtain ⟨q2, hq2⟩ : ∃ q, q = 64 * (k + 1) := ⟨_, rfl⟩
      have e0 : IntKind.i64.wrap ((a : Int) + (k : Int)) = (j : Int) := by rw [IntWalk.i64_in _ (by omega)]; omega
      have e1 : IntKind.i64.wrap (64 * (k : Int)) = (q : Int) := by rw [IntWalk.i64_in _ (by omega)]; omega
      have e2 : IntKind.i64.wrap ((q : Int) + 64) = (q2 : Int) := by rw [IntWalk.i64_in _ (by omega)]; omega
      have q0 : (0 : Int) ≤ (q : Int) := by omega
      have q4 : (0 : Int) ≤ (q2 : Int) := by omega
      have q1 : (q : Int) ≤ (q2 : Int) := by omega
      have q3 : (q2 : Int) ≤ (b.size : Int) := by omega
      have hX : (b.extract q q2).data.toList = sec b k := by rw [hq, hq2]; exact sec_ext b k
      have KP := Lib.hid (put_s HS.out hn j (by omega) (b.extract q q2) (by rw [← Dv.ba_len, hX]; exact sec_le b k))
      rw [hX, pad_sec hsz hlt, hj, putG_step, ← hj] at KP
      clear hX hj hq hq2
      go_wp2_with fail
      refine KP.out.mono ?_
      rintro x w6 ⟨rfl, hd6, hf6⟩
      have S6 := Lib.hid hd6
      have F6 := Lib.hid (HF.out.trans hf6)
      clear hd6 hf6 HS HF KP e0 e1 e2
      go_wp2
      go_roundw
      case rel => exact ⟨k + 1, by omega, by go_num, S6, F6⟩
      case measure => simp [intOf]; omega
    · have hk1 : (4 : Int) ≤ (k : Int) := by omega
      have hk4 : k = 4 := by omega
      have S6 : Hid (DvB w wa D P L M n B ⟨.on, putG g a b 4, fun _ => none⟩) := by rw [← hk4]; exact HS.out
      clear HS hk4
      go_wp2
      go_ret
      exact ⟨rfl, S6.out, HF.out⟩
end
end Go.Proofs.YtcdnkmjjedbbpaaGreatDoor
