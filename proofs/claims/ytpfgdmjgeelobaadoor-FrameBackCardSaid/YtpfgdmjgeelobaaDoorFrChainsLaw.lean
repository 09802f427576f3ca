/-
  THE WALK OF quadrigalaw03.FrameChains: it returns true, and writes nothing that was there.
-/
import Derived.Test.YtpfgdmjgeelobaaDoorFrTold
import Derived.Test.YtpfgdmjgeelobaaDoorFrWake
namespace Go.Proofs.YtpfgdmjgeelobaaDoor
open Go.RowKit Crc

theorem chain_len (ep cut : Int) : ∀ (n : Nat) (s : ByteArray) (at_ ab : Int), (chain ep cut n s at_ ab).1.length * 25 ≤ s.size
  | 0, s, at_, ab => by simp [chain]
  | n + 1, s, at_, ab => by
    cases h : (frOk s && frFits ep cut (frE s) (frA s) (frG s) at_ ab)
    · rw [chain_stop h]; simp
    · rw [chain_go h]
      have ih := chain_len ep cut n (s.extract (25 + frN s) s.size) (at_ + ((25 + frN s : Nat) : Int)) (frG s)
      rw [Bool.and_eq_true] at h
      obtain ⟨hz, _, _⟩ := frOk_facts h.1
      have hx : (s.extract (25 + frN s) s.size).size = s.size - (25 + frN s) := by rw [ByteArray.size_extract]; omega
      rw [hx] at ih
      show (List.length _ + 1) * 25 ≤ _
      omega

set_option maxRecDepth 100000 in
set_option maxHeartbeats 4000000 in
theorem frameChains_walk (ep cut at_ ab e a g : Int) (s d : ByteArray) (w : World) (hs : s.size ≤ maxLen) (ht : Tab w) :
    Calls Tryd.prog 5 #[.int .i64 ep, .int .i64 cut, .string s, .int .i64 at_, .int .i64 ab, .agg #[.int .i64 e, .int .i64 a, .int .i64 g, .string d]] w fun x w' => x = .returned (.bool true) ∧ Below w.heap.size w w' := by
  have HT := Lib.hid ht; clear ht
  unfold maxLen at hs
  have KA := Lib.hid (fun W (hW : Below w.heap.size w W) => (awake_fr W (HT.out.below hW)).mono fun e w' h => (⟨h.1, hW.trans (h.2.mono hW.size)⟩ : e = .returned (.bool true) ∧ Below w.heap.size w w'))
  have KB := Lib.hid (fun W (hW : Below w.heap.size w W) => awake_fr W (HT.out.below hW))
  have hw0 : Below w.heap.size w (w.alloc (.cells #[.int .i64 e, .int .i64 a, .int .i64 g, .string d] 23)) := (Below.refl _ _).alloc (Nat.le_refl _) _
  by_cases hbig : 4000 < s.size
  · have hbig' : (4000 : Int) < (s.size : Int) := by omega
    go_enter Tryd.func5, Tryd.ntmps5
    go_wp2_with fail
    refine (KA.out _ hw0).mono ?_
    rintro x w1 ⟨rfl, hb1⟩
    go_wp2
    go_ret
    exact ⟨rfl, hb1⟩
  · have hbig' : (s.size : Int) ≤ 4000 := by omega
    by_cases hhi : 1099511627776 < at_
    · go_enter Tryd.func5, Tryd.ntmps5
      go_wp2_with fail
      refine (KA.out _ hw0).mono ?_
      rintro x w1 ⟨rfl, hb1⟩
      go_wp2
      go_ret
      exact ⟨rfl, hb1⟩
    · have hhi' : at_ ≤ 1099511627776 := by omega
      by_cases hlo : at_ < -1099511627776
      · go_enter Tryd.func5, Tryd.ntmps5
        go_wp2_with fail
        refine (KA.out _ hw0).mono ?_
        rintro x w1 ⟨rfl, hb1⟩
        go_wp2
        go_ret
        exact ⟨rfl, hb1⟩
      · have hlo' : -1099511627776 ≤ at_ := by omega
        have KC := Lib.hid (fun W (hW : Below w.heap.size w W) => chain_any ep cut at_ ab s W (by omega) (by omega) (HT.out.below hW))
        have KD := Lib.hid (fun W => refChain_any ep cut at_ ab s W (by omega) (by omega))
        have hlen := chain_len ep cut (s.size + 1) s at_ ab
        generalize chain ep cut (s.size + 1) s at_ ab = C at *
        unfold ChainPost at KC KD
        have hC : C.1.length ≤ 1000 := by omega
        clear hlen
        have KF := Lib.hid (fun W => ruleFits_any ep cut e a g at_ ab d W)
        have KG := Lib.hid (fun W => refFits_any ep cut e a g at_ ab d W)
        generalize (frRight e a g d.size && frFits ep cut e a g at_ ab) = fit at *
        go_enter Tryd.func5, Tryd.ntmps5
        go_wp2_with fail
        refine (KC.out _ (bw_alloc hw0)).mono ?_
        rintro x w1 ⟨v1, rfl, ho1, hb1⟩
        obtain ⟨a1, c1, rfl, hf1⟩ := frs_of_own ho1
        obtain ⟨hr, hq⟩ := two_kept hb1
        have r0 := hr 0
        have r1 := hr 1
        have q0 := hq 0
        have q1 := hq 1
        have q2 := hq 2
        have q3 := hq 3
        simp only [List.getElem?_toArray, List.getElem?_cons_zero, List.getElem?_cons_succ] at r0 r1 q0 q1 q2 q3
        clear hr hq ho1
        have F1 := Lib.hid hf1; clear hf1
        go_wp2_with fail
        refine (KD.out _).mono ?_
        rintro x w2 ⟨v2, rfl, ho2, hb2⟩
        obtain ⟨a2, c2, rfl, hf2⟩ := frs_of_own ho2
        have F2 := Lib.hid hf2; clear hf2 ho2
        go_wp2_with fail
        go_region_held3 (fun w' => w'.cell? ⟨w.heap.size, 0, none⟩ = some (.int .i64 e) ∧ w'.cell? ⟨w.heap.size, 1, none⟩ = some (.int .i64 a) ∧ w'.cell? ⟨w.heap.size, 2, none⟩ = some (.int .i64 g) ∧ w'.cell? ⟨w.heap.size, 3, none⟩ = some (.string d) ∧
            w'.cell? ⟨w.heap.size + 1, 0, none⟩ = some (.int .i64 ep) ∧ w'.cell? ⟨w.heap.size + 1, 1, none⟩ = some (.int .i64 cut))
          ((refine ⟨?_, ?_, ?_, ?_, ?_, ?_⟩ <;> (repeat (first | with_reducible assumption | with_reducible refine keep_alloc ?_ | with_reducible refine keep_drew ?_ | with_reducible refine keep_cell (by assumption) ?_))))
          (first
            | (go_at_call 18; refine (told_any a1 C.1 c1 _ hC ?_).mono ?_; exact (F1.out.below hb2).keep fun _ _ h => h; rintro x w3 ⟨v3, rfl, ho3, hb3⟩; obtain ⟨a3, c3, rfl, hf3⟩ := frs_of_own ho3; have F3 := Lib.hid hf3; clear hf3 ho3)
            | (go_at_call 17; refine (same_any a3 a2 C.1 c3 c2 _ hC F3.out ?_).mono ?_; exact F2.out.keep fun _ _ h => keep_cell hb3 h; rintro x w4 ⟨rfl, hb4⟩)
            | (go_at_call 19; refine (KF.out _).mono ?_; rintro x w5 ⟨rfl, hb5⟩)
            | (go_at_call 20; refine (KG.out _).mono ?_; rintro x w6 ⟨rfl, hb6⟩)
            | (go_at_call 8; refine (KB.out _ ?_).mono ?_; (repeat (first | with_reducible assumption | with_reducible refine bw_alloc ?_ | with_reducible refine bw_drew ?_ | with_reducible refine bw_call (by assumption) ?_)); rintro x w7 ⟨rfl, hb7⟩))
        all_goals go_wp2
        all_goals go_ret
        all_goals refine ⟨rfl, ?_⟩
        all_goals (repeat (first | with_reducible assumption | with_reducible refine bw_alloc ?_ | with_reducible refine bw_drew ?_ | with_reducible refine bw_call (by assumption) ?_))
end Go.Proofs.YtpfgdmjgeelobaaDoor
