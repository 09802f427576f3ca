/-
  THE CONTRACT OF twice's mend, of a note of a page.
-/
import Derived.Test.YtaegpniagpehcaaGreatDoorTwOpenA
namespace Go.Proofs.YtaegpniagpehcaaGreatDoor
open Go.RowKit
section
variable {w W : World} {D P L M n B T pages : Nat} {s : Ds}
set_option maxRecDepth 100000 in
set_option maxHeartbeats 4000000 in
/-- A note of a page. -/
theorem mend_note (h : TwS w W D P L M n B T pages s) (hon : s.pm ≠ .off) (hB : B + 7 ≤ 900000) (hn : n ≤ 4096) (hfit : 5 + 4 * pages ≤ n) (hz : allZ (Dv.txt (vw s 0)) = false) (k : Nat) (r : ByteArray) (ht : takeOf (Dv.txt (vw s 0)) 1 = some (k, r)) (hr : r.size ≤ 64) (hk : k < 256) (h1 : 1 ≤ k) (h2 : k ≤ pages) (hzr : allZ r = true) :
    Calls Tryz.prog 35 #[.pointer (some ⟨T, 0, none⟩)] W (TwE w W D P L M n (B + 7) T pages (openM pages s)) := by
  have KR := Lib.hid (read_s h.d 0 (by omega) hn)
  rw [rdV_on hon, show ((0 : Nat) : Int) = 0 from rfl] at KR
  have hs := txt_len (h.d.vlen 0 (by omega))
  have S0 := Lib.hid h
  have t0 := h.t0
  have KX0 := Lib.hid (fun W (hS : TwS w W D P L M n B T pages s) => text_s hS hon 1 (by omega) hn)
  rw [show ((1 : Nat) : Int) = 1 from rfl] at KX0
  have hO : openM pages s = match readOf (txt4 (vw s) 1) with
      | none => (9, s)
      | some (no, _, _) => if no + 1 = k then (er (settleM no (txt4 (vw s) 1) s).1, (settleM no (txt4 (vw s) 1) s).2) else (9, s) := by
    unfold openM
    have hc : ¬ (k < 1 ∨ pages < k ∨ allZ r = false) := fun e => by
      rcases e with e | e | e
      · omega
      · omega
      · rw [hzr] at e; cases e
    cases hp : s.pm with
    | off => exact absurd hp hon
    | on => simp only [hz, ht, if_neg hc]; rfl
    | arm i => simp only [hz, ht, if_neg hc]; rfl
  have hlen : (txt4 (vw s) 1).size = 256 := by
    have e : ∀ j, j < n → (vw s j).length = 64 := h.d.vlen
    unfold txt4
    rw [bstr_size, List.length_append, List.length_append, List.length_append, e _ (by omega), e _ (by omega), e _ (by omega), e _ (by omega)]
  clear h
  generalize Dv.txt (vw s 0) = t at *
  generalize txt4 (vw s) 1 = b at *
  have KB := Lib.hid (fun W => blank_any t (by omega) W)
  have KT := Lib.hid (fun W => take_any t 1 W (by omega) (by omega))
  rw [take_val_some ht] at KT
  have KZ := Lib.hid (fun W => blank_any r (by omega) W)
  have KD := Lib.hid (fun W hT => read_any b W (by omega) hT)
  rw [hz] at KB
  rw [hzr] at KZ
  have k0 : (1 : Int) ≤ (k : Int) := by omega
  have k1 : (k : Int) ≤ (pages : Int) := by omega
  obtain ⟨m, hm⟩ : ∃ m, m + 1 = k := ⟨k - 1, by omega⟩
  have e1 : IntKind.i64.wrap ((k : Int) - 1) = (m : Int) := by rw [IntWalk.i64_in _ (by omega)]; omega
  clear hz hs ht hzr
  cases hrd : readOf b with
  | none =>
    rw [hrd] at hO KD
    have HO := Lib.hid hO
    clear hO hrd hm
    go_enter Tryz.func35, Tryz.ntmps35
    go_wp2_with fail
    refine KR.out.mono ?_
    rintro x w1 ⟨rfl, hb1⟩
    have S1 := Lib.hid (S0.out.below hb1)
    have F1 := Lib.hid (Dv.Fr3.of_below (P := P) (L := L) (M := M) hb1)
    clear hb1 KR S0 t0
    go_wp2_with fail
    refine (KB.out _).mono ?_
    rintro x w2 ⟨rfl, hb2⟩
    have S2 := Lib.hid (S1.out.below hb2)
    have F2 := Lib.hid (F1.out.trans (Dv.Fr3.of_below hb2))
    clear hb2 KB S1 F1
    go_wp2_with fail
    refine (KT.out _).mono ?_
    rintro x w3 ⟨rfl, hb3⟩
    have S3 := Lib.hid (S2.out.below hb3)
    have F3 := Lib.hid (F2.out.trans (Dv.Fr3.of_below hb3))
    have t1 := S3.out.t1
    clear hb3 KT S2 F2
    go_wp2_with fail
    refine (KZ.out _).mono ?_
    rintro x w4 ⟨rfl, hb4⟩
    have S4 := Lib.hid (S3.out.below hb4)
    have F4 := Lib.hid (F3.out.trans (Dv.Fr3.of_below hb4))
    have t0 := S4.out.t0
    clear hb4 KZ S3 F3 t1
    have KX := Lib.hid (KX0.out _ S4.out)
    go_wp2_with fail
    refine KX.out.mono ?_
    rintro x w5 ⟨rfl, hb5⟩
    have S5 := Lib.hid (S4.out.below hb5)
    have F5 := Lib.hid (F4.out.trans (Dv.Fr3.of_below hb5))
    clear hb5 KX KX0 S4 F4 t0
    go_wp2_with fail
    refine (KD.out _ S5.out.tabW).mono ?_
    rintro x w6 ⟨rfl, hb6⟩
    have hba := (Below.refl w6.heap.size w6).alloc (Nat.le_refl _) (.cells #[.int .i64 0, .int .i64 0, .slice none 0 0] 36)
    have S6 := Lib.hid ((S5.out.below hb6).below hba)
    have F6 := Lib.hid ((F5.out.trans (Dv.Fr3.of_below hb6)).trans (Dv.Fr3.of_below hba))
    clear hb6 hba KD S5 F5
    go_upto_region 13 with fail
    generalize w6.alloc (.cells #[.int .i64 0, .int .i64 0, .slice none 0 0] 36) = Y at *
    go_wp2
    go_ret
    exact ⟨by rw [HO.out]; rfl, by rw [HO.out]; exact S6.out.more (by omega), F6.out⟩
  | some q =>
    obtain ⟨no, g, l⟩ := q
    rw [hrd] at hO KD
    by_cases hno : no + 1 = k
    · have HO : Hid (openM pages s = (er (settleM no b s).1, (settleM no b s).2)) := by rw [Hid, hO]; exact if_pos hno
      have hnm : m = no := by omega
      have hpl : place no + 4 ≤ n := by unfold place; omega
      subst hnm
      clear hO hrd hm hno
      go_enter Tryz.func35, Tryz.ntmps35
      go_wp2_with fail
      refine KR.out.mono ?_
      rintro x w1 ⟨rfl, hb1⟩
      have S1 := Lib.hid (S0.out.below hb1)
      have F1 := Lib.hid (Dv.Fr3.of_below (P := P) (L := L) (M := M) hb1)
      clear hb1 KR S0 t0
      go_wp2_with fail
      refine (KB.out _).mono ?_
      rintro x w2 ⟨rfl, hb2⟩
      have S2 := Lib.hid (S1.out.below hb2)
      have F2 := Lib.hid (F1.out.trans (Dv.Fr3.of_below hb2))
      clear hb2 KB S1 F1
      go_wp2_with fail
      refine (KT.out _).mono ?_
      rintro x w3 ⟨rfl, hb3⟩
      have S3 := Lib.hid (S2.out.below hb3)
      have F3 := Lib.hid (F2.out.trans (Dv.Fr3.of_below hb3))
      have t1 := S3.out.t1
      clear hb3 KT S2 F2
      go_wp2_with fail
      refine (KZ.out _).mono ?_
      rintro x w4 ⟨rfl, hb4⟩
      have S4 := Lib.hid (S3.out.below hb4)
      have F4 := Lib.hid (F3.out.trans (Dv.Fr3.of_below hb4))
      have t0 := S4.out.t0
      clear hb4 KZ S3 F3 t1
      have KX := Lib.hid (KX0.out _ S4.out)
      go_wp2_with fail
      refine KX.out.mono ?_
      rintro x w5 ⟨rfl, hb5⟩
      have S5 := Lib.hid (S4.out.below hb5)
      have F5 := Lib.hid (F4.out.trans (Dv.Fr3.of_below hb5))
      clear hb5 KX KX0 S4 F4 t0
      go_wp2_with fail
      refine (KD.out _ S5.out.tabW).mono ?_
      rintro x w6 ⟨a, c, rfl, hrow, hb6⟩
      have hba := (Below.refl w6.heap.size w6).alloc (Nat.le_refl _) (.cells #[.int .i64 (m : Int), .int .i64 (g : Int), .slice a l.length c] 36)
      have S6 := Lib.hid ((S5.out.below hb6).below hba)
      have F6 := Lib.hid ((F5.out.trans (Dv.Fr3.of_below hb6)).trans (Dv.Fr3.of_below hba))
      have c0 : (w6.alloc (.cells #[.int .i64 (m : Int), .int .i64 (g : Int), .slice a l.length c] 36)).cell? ⟨w6.heap.size, 0, none⟩ = some (.int .i64 (m : Int)) := Dv.new_cell rfl rfl
      clear hb6 hba KD S5 F5 hrow
      go_upto_region 13 with fail
      generalize w6.alloc (.cells #[.int .i64 (m : Int), .int .i64 (g : Int), .slice a l.length c] 36) = Y at *
      have KS := Lib.hid (settle_s S6.out hB hn m hpl b hlen)
      clear hlen
      go_wp2_with fail
      refine KS.out.mono ?_
      rintro x w7 ⟨rfl, hs7, hf7⟩
      have S7 := Lib.hid hs7
      have F7 := Lib.hid (F6.out.trans hf7)
      clear hs7 hf7 KS S6 F6
      go_wp2
      go_ret
      exact ⟨by rw [HO.out]; rfl, by rw [HO.out]; exact S7.out, F7.out⟩
    · have HO : Hid (openM pages s = (9, s)) := by rw [Hid, hO]; exact if_neg hno
      have hne : ¬ (no : Int) = (m : Int) := by omega
      clear hO hrd hm hno
      go_enter Tryz.func35, Tryz.ntmps35
      go_wp2_with fail
      refine KR.out.mono ?_
      rintro x w1 ⟨rfl, hb1⟩
      have S1 := Lib.hid (S0.out.below hb1)
      have F1 := Lib.hid (Dv.Fr3.of_below (P := P) (L := L) (M := M) hb1)
      clear hb1 KR S0 t0
      go_wp2_with fail
      refine (KB.out _).mono ?_
      rintro x w2 ⟨rfl, hb2⟩
      have S2 := Lib.hid (S1.out.below hb2)
      have F2 := Lib.hid (F1.out.trans (Dv.Fr3.of_below hb2))
      clear hb2 KB S1 F1
      go_wp2_with fail
      refine (KT.out _).mono ?_
      rintro x w3 ⟨rfl, hb3⟩
      have S3 := Lib.hid (S2.out.below hb3)
      have F3 := Lib.hid (F2.out.trans (Dv.Fr3.of_below hb3))
      have t1 := S3.out.t1
      clear hb3 KT S2 F2
      go_wp2_with fail
      refine (KZ.out _).mono ?_
      rintro x w4 ⟨rfl, hb4⟩
      have S4 := Lib.hid (S3.out.below hb4)
      have F4 := Lib.hid (F3.out.trans (Dv.Fr3.of_below hb4))
      have t0 := S4.out.t0
      clear hb4 KZ S3 F3 t1
      have KX := Lib.hid (KX0.out _ S4.out)
      go_wp2_with fail
      refine KX.out.mono ?_
      rintro x w5 ⟨rfl, hb5⟩
      have S5 := Lib.hid (S4.out.below hb5)
      have F5 := Lib.hid (F4.out.trans (Dv.Fr3.of_below hb5))
      clear hb5 KX KX0 S4 F4 t0
      go_wp2_with fail
      refine (KD.out _ S5.out.tabW).mono ?_
      rintro x w6 ⟨a, c, rfl, hrow, hb6⟩
      have hba := (Below.refl w6.heap.size w6).alloc (Nat.le_refl _) (.cells #[.int .i64 (no : Int), .int .i64 (g : Int), .slice a l.length c] 36)
      have S6 := Lib.hid ((S5.out.below hb6).below hba)
      have F6 := Lib.hid ((F5.out.trans (Dv.Fr3.of_below hb6)).trans (Dv.Fr3.of_below hba))
      have c0 : (w6.alloc (.cells #[.int .i64 (no : Int), .int .i64 (g : Int), .slice a l.length c] 36)).cell? ⟨w6.heap.size, 0, none⟩ = some (.int .i64 (no : Int)) := Dv.new_cell rfl rfl
      clear hb6 hba KD S5 F5 hrow
      go_upto_region 13 with fail
      generalize w6.alloc (.cells #[.int .i64 (no : Int), .int .i64 (g : Int), .slice a l.length c] 36) = Y at *
      go_wp2
      go_ret
      exact ⟨by rw [HO.out]; rfl, by rw [HO.out]; exact S6.out.more (by omega), F6.out⟩
end
end Go.Proofs.YtaegpniagpehcaaGreatDoor
