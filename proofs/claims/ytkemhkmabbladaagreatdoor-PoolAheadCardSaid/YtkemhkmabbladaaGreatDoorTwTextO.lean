/-
  THE CONTRACT OF twice's text, where the power is off.
-/
import Derived.Test.YtkemhkmabbladaaGreatDoorTwText
namespace Go.Proofs.YtkemhkmabbladaaGreatDoor
open Go.RowKit
section
variable {w W : World} {D P L M n B T pages : Nat} {s : Ds}
theorem text_off (h : TwS w W D P L M n B T pages s) (ho : s.pm = .off) (a : Nat) (ha : a + 4 ≤ n) (hn : n ≤ 4096) :
    Calls Tryz.prog 36 #[.pointer (some ⟨T, 0, none⟩), .int .i64 (a : Int)] W fun x w' => x = .returned (.tuple #[.string ⟨#[]⟩, .int .i64 6]) ∧ Below W.heap.size W w' := by
  have hba := (Below.refl W.heap.size W).alloc (Nat.le_refl _) (.cells #[.string ⟨#[]⟩, .string ⟨#[]⟩, .string ⟨#[]⟩, .string ⟨#[]⟩] 117)
  have KR := Lib.hid (read_s (h.below hba).d a (by omega) hn)
  rw [rdV_off ho] at KR
  have t0 := (h.below hba).t0
  have a0 : (0 : Int) ≤ (a : Int) := by omega
  have a1 : (a : Int) ≤ 4096 := by omega
  clear h
  go_enter Tryz.func36, Tryz.ntmps36
  go_upto_region 2 with fail
  generalize W.alloc (.cells #[.string ⟨#[]⟩, .string ⟨#[]⟩, .string ⟨#[]⟩, .string ⟨#[]⟩] 117) = X at *
  go_wp2
  go_loopw [10] (fun i wr => i = .int .i64 0 ∧ wr = X) (fun i _ => 4 - (intOf i).toNat)
  case atStart => exact ⟨rfl, rfl⟩
  case round =>
    obtain ⟨rfl, rfl⟩ := hrel
    go_wp2_with fail
    refine KR.out.mono ?_
    rintro x w1 ⟨rfl, hb1⟩
    go_wp2
    go_ret2
    exact ⟨rfl, hba.trans (hb1.mono hba.size)⟩
end
end Go.Proofs.YtkemhkmabbladaaGreatDoor
