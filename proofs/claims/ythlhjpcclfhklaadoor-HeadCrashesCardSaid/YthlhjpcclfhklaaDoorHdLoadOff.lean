/-
  head.Load of a device that is off.
-/
import Derived.Test.YthlhjpcclfhklaaDoorHdLoad
namespace Go.Proofs.YthlhjpcclfhklaaDoor
open Go.RowKit
section
variable {D P L M n k : Nat} {uses left : Int} {las : List (List UInt8)} {f : Int → Option (List UInt8)}
set_option maxRecDepth 100000 in
set_option maxHeartbeats 2000000 in
theorem load_off (w : World) {armed : Bool} (h : Dv.DevAt w D P L M n k true uses armed left las f) (i : Nat) (hi : i + 2 ≤ n) (hn : n ≤ 4096) :
    Calls Tryd.prog 10 #[.pointer (some ⟨D, 0, none⟩), .int .i64 i] w
      fun x w' => x = .returned (.tuple #[.agg #[.int .i64 0, .int .i64 0, .int .i64 0, .int .i64 0, .int .i64 0], .int .i64 6]) ∧ Below w.heap.size w w' := by
  have KK := Lib.hid (fun W (h : Dv.DevAt W D P L M n k true uses armed left las f) => kept_yes h (i : Int) ⟨by omega, by omega⟩ hn)
  have KD := Lib.hid (fun W (h : Dv.DevAt W D P L M n k true uses armed left las f) => Dv.read_off h ((i : Int) + 0))
  rw [Int.add_zero] at KD
  have HD := Lib.hid h
  have hi0 : (0 : Int) ≤ (i : Int) := by omega
  have hi1 : (i : Int) ≤ 4096 := by omega
  clear h
  have Z0 := Lib.hid (z5_new w 28)
  have L0 := Lib.hid (ldW_new w 28)
  go_enter Tryd.func10, Tryd.ntmps10
  go_wp2_with fail
  refine (KK.out _ (HD.out.below Z0.out.bw)).mono ?_
  rintro x w' ⟨rfl, rfl⟩
  clear KK Z0
  go_wp2
  generalize (w.alloc (.cells #[.int .i64 0, .int .i64 0, .int .i64 0, .int .i64 0, .int .i64 0] 28)).alloc (.cells #[.int .i64 0, .int .i64 0, .int .i64 0, .int .i64 0, .int .i64 0] 28) = W0 at *
  generalize w.heap.size + 1 = B at *
  go_loopw [20] (fun iv wr => iv = .int .i64 0 ∧ wr = W0) (fun _ _ => 0)
  case atStart => exact ⟨rfl, rfl⟩
  case round =>
    obtain ⟨rfl, rfl⟩ := hrel
    have KDa := Lib.hid (KD.out _ (HD.out.below L0.out.z.bw))
    obtain ⟨⟨r0, r1, r2, r3, r4⟩, rf, bw, _⟩ := L0.out.z
    clear KD L0 HD
    go_wp2_with fail
    refine KDa.out.mono ?_
    rintro e w1 ⟨rfl, rfl⟩
    go_wp2
    obtain ⟨X, hX, ⟨x0, x1, x2, x3, x4⟩, hbX⟩ := set5 (v0 := .int .i64 0) (v1 := .int .i64 0) (v2 := .int .i64 0) (v3 := .int .i64 0) (v4 := .int .i64 0) ⟨r0, r1, r2, r3, r4⟩ bw (Nat.le_refl _)
    rw [hX]
    refine bodyPost_ret (v := .tuple #[.agg #[.int .i64 0, .int .i64 0, .int .i64 0, .int .i64 0, .int .i64 0], .int .i64 6]) ?_ rfl ⟨rfl, hbX⟩
    simp [results, Tryd.results10, go_sem, x0, x1, x2, x3, x4]
end
end Go.Proofs.YthlhjpcclfhklaaDoor
