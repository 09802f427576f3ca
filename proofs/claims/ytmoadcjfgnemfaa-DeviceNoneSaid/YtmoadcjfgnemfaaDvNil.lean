/-
  WHAT A nil device, AND A nil power, ANSWER.
-/
import Derived.Test.YtmoadcjfgnemfaaDvActs
import Derived.Deep.RegionHeld3
namespace Go.Proofs.Ytmoadcjfgnemfaa
open Go.RowKit
theorem nPowArm (n : Int) (w : World) : Calls Try.prog 24 #[.pointer none, .int .i64 n] w fun e w' => e = .returned (.tuple #[]) ∧ w = w' := by
  go_enter Try.func24, Try.ntmps24
  go_wp2
  refine bodyPost_ret (results_none rfl _ _ _) rfl ?_
  exact ⟨rfl, rfl⟩
theorem nPowUses (w : World) : Calls Try.prog 15 #[.pointer none] w fun e w' => e = .returned (.int .i64 0) ∧ w = w' := by
  go_enter Try.func15, Try.ntmps15
  go_wp2
  go_ret
  exact ⟨rfl, rfl⟩
theorem nArm (n : Int) (w : World) : Calls Try.prog 25 #[.pointer none, .int .i64 n] w fun e w' => e = .returned (.tuple #[]) ∧ w = w' := by
  go_enter Try.func25, Try.ntmps25
  go_wp2
  exact bodyPost_end (v := .tuple #[]) (by simp [results, Try.results25]) rfl ⟨rfl, rfl⟩
theorem nCrash (a : Option Addr) (n c : Nat) (w : World) : Calls Try.prog 20 #[.pointer none, .slice a n c] w fun e w' => e = .returned (.tuple #[]) ∧ w = w' := by
  go_enter Try.func20, Try.ntmps20
  go_wp2
  refine bodyPost_ret (results_none rfl _ _ _) rfl ?_
  exact ⟨rfl, rfl⟩
theorem nSectors (w : World) : Calls Try.prog 29 #[.pointer none] w fun e w' => e = .returned (.int .i64 0) ∧ w = w' := by
  go_enter Try.func29, Try.ntmps29
  go_wp2
  go_ret
  exact ⟨rfl, rfl⟩
theorem nHas (i : Int) (w : World) : Calls Try.prog 42 #[.pointer none, .int .i64 i] w fun e w' => e = .returned (.bool false) ∧ w = w' := by
  have KS := Lib.hid (nSectors w)
  by_cases h0 : 0 ≤ i
  · have HD := Lib.hid (decide_eq_false (show ¬ i < 0 by omega))
    go_enter Try.func42, Try.ntmps42
    go_wp2_with fail
    refine KS.out.mono ?_
    rintro e w1 ⟨rfl, rfl⟩
    go_wp2
    go_ret
    exact ⟨ret_bool HD.out, rfl⟩
  · have h0 : i < 0 := by omega
    go_enter Try.func42, Try.ntmps42
    go_wp2
    go_ret
    exact ⟨rfl, rfl⟩
theorem nRead (i : Int) (w : World) : Calls Try.prog 21 #[.pointer none, .int .i64 i] w fun e w' => e = .returned (.tuple #[.string ⟨#[]⟩, .int .i64 1]) ∧ w = w' := by
  have KH := Lib.hid (nHas i w)
  go_enter Try.func21, Try.ntmps21
  go_wp2_with fail
  refine KH.out.mono ?_
  rintro e w1 ⟨rfl, rfl⟩
  go_wp2
  go_ret2
  exact ⟨rfl, rfl⟩
theorem nWrite (i : Int) (a : Option Addr) (n c : Nat) (w : World) : Calls Try.prog 17 #[.pointer none, .int .i64 i, .slice a n c] w fun e w' => e = .returned (.int .i64 1) ∧ w = w' := by
  go_enter Try.func17, Try.ntmps17
  go_wp2
  go_ret
  exact ⟨rfl, rfl⟩
theorem nSync (w : World) : Calls Try.prog 19 #[.pointer none] w fun e w' => e = .returned (.int .i64 1) ∧ w = w' := by
  go_enter Try.func19, Try.ntmps19
  go_wp2
  go_ret
  exact ⟨rfl, rfl⟩
theorem nLasts (i : Int) (w : World) : Calls Try.prog 28 #[.pointer none, .int .i64 i] w fun e w' => e = .returned (.string ⟨#[]⟩) ∧ w = w' := by
  have KH := Lib.hid (nHas i w)
  go_enter Try.func28, Try.ntmps28
  go_wp2_with fail
  refine KH.out.mono ?_
  rintro e w1 ⟨rfl, rfl⟩
  go_wp2
  go_ret
  exact ⟨rfl, rfl⟩
theorem nLoose (w : World) : Calls Try.prog 23 #[.pointer none] w fun e w' => e = .returned (.slice none 0 0) ∧ w = w' := by
  go_enter Try.func23, Try.ntmps23
  go_wp2
  go_ret
  exact ⟨rfl, rfl⟩
theorem nOn (w : World) : Calls Try.prog 30 #[.pointer none] w fun e w' => e = .returned (.bool false) ∧ w = w' := by
  go_enter Try.func30, Try.ntmps30
  go_wp2
  go_ret
  exact ⟨rfl, rfl⟩
theorem nUses (w : World) : Calls Try.prog 31 #[.pointer none] w fun e w' => e = .returned (.int .i64 0) ∧ w = w' := by
  go_enter Try.func31, Try.ntmps31
  go_wp2
  go_ret
  exact ⟨rfl, rfl⟩
set_option maxHeartbeats 1000000 in
theorem nPut (i : Int) (s : ByteArray) (hs : s.size ≤ 1000) (w : World) : Calls Try.prog 26 #[.pointer none, .int .i64 i, .string s] w fun e w' => e = .returned (.int .i64 1) ∧ Below w.heap.size w w' := by
  have hb : Below w.heap.size w (w.alloc (.cells #[.string s] 9)) := (Below.refl _ _).alloc (Nat.le_refl _) _
  have KL := Lib.hid ((lay_any (some ⟨w.heap.size, 0, none⟩) [s] 1 (w.alloc (.cells #[.string s] 9)) (by simp) (one_str _ _ _) (fun i => by
    cases i with
    | zero => show s.size ≤ _; omega
    | succ i => simp [ByteArray.size])).mono fun e w' hh => (⟨hh.1, Lib.hid (hb.trans (hh.2.mono hb.size))⟩ : e = .returned (layV [s]) ∧ Hid (Below w.heap.size w w')))
  have KH := Lib.hid (fun W => nHas i W)
  have hV : ∃ (l0 : List UInt8) (b : Bool), l0.length = 64 ∧ layV [s] = .tuple #[.agg (secC l0).toArray, .bool b] := by
    unfold layV
    by_cases h : (joined [s]).length ≤ 64
    · rw [if_pos h]; exact ⟨_, true, pad_len h, rfl⟩
    · rw [if_neg h]; exact ⟨_, false, pad_len (by decide), rfl⟩
  obtain ⟨l0, b, hl0, hlv⟩ := hV
  rw [hlv] at KL
  have hC64 : (secC l0).toArray.size = 64 := by rw [List.size_toArray, secC_len, hl0]
  have z2 : (secC l0).toArray.all (·.oneCell') = true := secV_one _
  generalize (secC l0).toArray = C at KL hC64 z2
  have z3 : (Try.prog.info? 78).map (·.size) = some C.size := by rw [hC64]; exact (zero_of_info infoK).2
  have z1 : zeroC.size = C.size := by rw [hC64]; rfl
  have HB2 := Lib.hid (fun (w1 : World) (h : Below w.heap.size w w1) => h.alloc h.size (.cells C 78))
  clear hb hlv hl0 hC64
  cases b with
  | true =>
    go_enter Try.func26, Try.ntmps26
    go_wp2_with fail
    refine KL.out.mono ?_
    rintro e w1 ⟨rfl, hb⟩
    have hb2 := Lib.hid (HB2.out w1 hb.out)
    go_wp2_with (first
      | (refine wpList_store_row rfl 78 _ _ rfl w1.heap.size C rfl rfl 78 zeroC (hp_new rfl) z3 z1 z2 ?_; rw [World.setRow_alloc_new])
      | fail)
    refine (KH.out _).mono ?_
    rintro e w2 ⟨rfl, rfl⟩
    go_wp2
    go_ret
    exact ⟨rfl, hb2.out⟩
  | false =>
    go_enter Try.func26, Try.ntmps26
    go_wp2_with fail
    refine KL.out.mono ?_
    rintro e w1 ⟨rfl, hb⟩
    have hb2 := Lib.hid (HB2.out w1 hb.out)
    go_wp2_with (first
      | (refine wpList_store_row rfl 78 _ _ rfl w1.heap.size C rfl rfl 78 zeroC (hp_new rfl) z3 z1 z2 ?_; rw [World.setRow_alloc_new])
      | fail)
    go_ret
    exact ⟨rfl, hb2.out⟩
end Go.Proofs.Ytmoadcjfgnemfaa
