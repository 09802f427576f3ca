/-
  THE CONTRACT OF twice's mend, where it writes nothing.
  THE CONTRACT OF twice's mend, of a note of a page.
  THE CONTRACTS OF twice's mend and Open: the page that is noted is written once more.
  WHAT AN OPEN TELLS OF PAGES THAT LAST, whatever was under way.
-/
import Derived.Test.YtcdnkmjjedbbpaaGreatDoorTws
namespace Go.Proofs.YtcdnkmjjedbbpaaGreatDoor
open Go.RowKit
/-- What Open answers of a device, and leaves of it. -/
def openM (pages : Nat) (s : Ds) : Int × Ds :=
  match s.pm with
  | .off => (6, s)
  | _ => if allZ (Dv.txt (vw s 0)) = true then (0, s) else
    match takeOf (Dv.txt (vw s 0)) 1 with
    | none => (9, s)
    | some (k, r) => if k < 1 ∨ pages < k ∨ allZ r = false then (9, s) else
      match readOf (txt4 (vw s) 1) with
      | none => (9, s)
      | some (no, _, _) => if no + 1 = k then (er (settleM no (txt4 (vw s) 1) s).1, (settleM no (txt4 (vw s) 1) s).2) else (9, s)
section
variable {w W : World} {D P L M n B T pages : Nat} {s : Ds}
theorem txt_len {l : List UInt8} (h : l.length = 64) : (Dv.txt l).size = 64 := by unfold Dv.txt; simpa [ByteArray.size] using h
theorem take1 {t : ByteArray} (h : t.size = 64) : ∃ k, k < 256 ∧ takeOf t 1 = some (k, t.extract 1 64) := by
  have hl : t.data.toList.length = 64 := by rw [Dv.ba_len]; exact h
  have hb : beVal (t.data.toList.take 1) < 256 := by
    have := beVal_lt (t.data.toList.take 1)
    rw [List.length_take, hl, show min 1 64 = 1 from rfl] at this
    simpa using this
  refine ⟨beVal (t.data.toList.take 1), hb, ?_⟩
  unfold takeOf
  rw [if_pos ⟨by omega, by omega, by rw [h]; decide, by rw [show (1 : Int).toNat = 1 from rfl]; omega⟩, h]
  rfl
theorem mend_off (h : TwS w W D P L M n B T pages s) (ho : s.pm = .off) (hn : n ≤ 4096) (h1 : 1 ≤ n) :
    Calls Tryz.prog 35 #[.pointer (some ⟨T, 0, none⟩)] W fun x w' => x = .returned (.int .i64 6) ∧ Below W.heap.size W w' := by
  have KR := Lib.hid (read_s h.d 0 (by omega) hn)
  rw [rdV_off ho, show ((0 : Nat) : Int) = 0 from rfl] at KR
  have t0 := h.t0
  clear h
  go_enter Tryz.func35, Tryz.ntmps35
  go_wp2_with fail
  refine KR.out.mono ?_
  rintro x w1 ⟨rfl, hb1⟩
  go_wp2
  go_ret
  exact ⟨rfl, hb1⟩
theorem mend_blank (h : TwS w W D P L M n B T pages s) (hon : s.pm ≠ .off) (hn : n ≤ 4096) (h1 : 1 ≤ n) (hz : allZ (Dv.txt (vw s 0)) = true) :
    Calls Tryz.prog 35 #[.pointer (some ⟨T, 0, none⟩)] W fun x w' => x = .returned (.int .i64 0) ∧ Below W.heap.size W w' := by
  have KR := Lib.hid (read_s h.d 0 (by omega) hn)
  rw [rdV_on hon, show ((0 : Nat) : Int) = 0 from rfl] at KR
  have hs := txt_len (h.d.vlen 0 (by omega))
  have t0 := h.t0
  clear h
  generalize Dv.txt (vw s 0) = t at *
  have KB := Lib.hid (fun W => blank_any t (by omega) W)
  rw [hz] at KB
  clear hz hs
  go_enter Tryz.func35, Tryz.ntmps35
  go_wp2_with fail
  refine KR.out.mono ?_
  rintro x w1 ⟨rfl, hb1⟩
  go_wp2_with fail
  refine (KB.out _).mono ?_
  rintro x w2 ⟨rfl, hb2⟩
  have hb3 := hb1.trans (hb2.mono hb1.size)
  clear hb1 hb2 KR KB
  go_wp2
  go_ret
  exact ⟨rfl, hb3⟩
set_option maxRecDepth 100000 in
set_option maxHeartbeats 4000000 in
/-- A note of no page. -/
theorem mend_bad (h : TwS w W D P L M n B T pages s) (hon : s.pm ≠ .off) (hn : n ≤ 4096) (h1 : 1 ≤ n) (hz : allZ (Dv.txt (vw s 0)) = false) (k : Nat) (r : ByteArray) (ht : takeOf (Dv.txt (vw s 0)) 1 = some (k, r)) (hr : r.size ≤ 64) (hk : k < 256) (hbad : k < 1 ∨ pages < k ∨ allZ r = false) :
    Calls Tryz.prog 35 #[.pointer (some ⟨T, 0, none⟩)] W fun x w' => x = .returned (.int .i64 9) ∧ Below W.heap.size W w' := by
  have KR := Lib.hid (read_s h.d 0 (by omega) hn)
  rw [rdV_on hon, show ((0 : Nat) : Int) = 0 from rfl] at KR
  have hs := txt_len (h.d.vlen 0 (by omega))
  have t0 := h.t0
  have t1 := h.t1
  clear h
  generalize Dv.txt (vw s 0) = t at *
  have KB := Lib.hid (fun W => blank_any t (by omega) W)
  have KT := Lib.hid (fun W => take_any t 1 W (by omega) (by omega))
  rw [take_val_some ht] at KT
  have KZ := Lib.hid (fun W => blank_any r (by omega) W)
  rw [hz] at KB
  clear hz hs ht
  by_cases h0 : k < 1
  · have k1 : (k : Int) < 1 := by omega
    clear hbad KZ
    go_enter Tryz.func35, Tryz.ntmps35
    go_wp2_with fail
    refine KR.out.mono ?_
    rintro x w1 ⟨rfl, hb1⟩
    go_wp2_with fail
    refine (KB.out _).mono ?_
    rintro x w2 ⟨rfl, hb2⟩
    have hb3 := hb1.trans (hb2.mono hb1.size)
    clear hb1 hb2 KR KB t0 t1
    go_wp2_with fail
    refine (KT.out _).mono ?_
    rintro x w4 ⟨rfl, hb4⟩
    have hb6 := hb3.trans (hb4.mono hb3.size)
    clear hb3 hb4
    go_wp2
    go_ret
    exact ⟨rfl, hb6⟩
  · have k0 : (1 : Int) ≤ (k : Int) := by omega
    by_cases h2 : pages < k
    · have k1 : (pages : Int) < (k : Int) := by omega
      clear hbad KZ
      go_enter Tryz.func35, Tryz.ntmps35
      go_wp2_with fail
      refine KR.out.mono ?_
      rintro x w1 ⟨rfl, hb1⟩
      go_wp2_with fail
      refine (KB.out _).mono ?_
      rintro x w2 ⟨rfl, hb2⟩
      have hb3 := hb1.trans (hb2.mono hb1.size)
      have u1 := Dv.keep_cell hb2 (Dv.keep_cell hb1 t1)
      clear hb1 hb2 KR KB t0 t1
      go_wp2_with fail
      refine (KT.out _).mono ?_
      rintro x w4 ⟨rfl, hb4⟩
      have hb6 := hb3.trans (hb4.mono hb3.size)
      have u2 := Dv.keep_cell hb4 u1
      clear hb3 hb4 u1
      go_wp2
      go_ret
      exact ⟨rfl, hb6⟩
    · have k1 : (k : Int) ≤ (pages : Int) := by omega
      have hzr : allZ r = false := by
        rcases hbad with e | e | e
        · omega
        · omega
        · exact e
      rw [hzr] at KZ
      clear hbad hzr
      go_enter Tryz.func35, Tryz.ntmps35
      go_wp2_with fail
      refine KR.out.mono ?_
      rintro x w1 ⟨rfl, hb1⟩
      go_wp2_with fail
      refine (KB.out _).mono ?_
      rintro x w2 ⟨rfl, hb2⟩
      have hb3 := hb1.trans (hb2.mono hb1.size)
      have u1 := Dv.keep_cell hb2 (Dv.keep_cell hb1 t1)
      clear hb1 hb2 KR KB t0 t1
      go_wp2_with fail
      refine (KT.out _).mono ?_
      rintro x w4 ⟨rfl, hb4⟩
      have hb45 := hb3.trans (hb4.mono hb3.size)
      have u2 := Dv.keep_cell hb4 u1
      clear hb3 hb4 u1
      go_wp2_with fail
      refine (KZ.out _).mono ?_
      rintro x w5 ⟨rfl, hb5⟩
      have hb6 := hb45.trans (hb5.mono hb45.size)
      clear hb5 hb45 KZ u2
      go_wp2
      go_ret
      exact ⟨rfl, hb6⟩
end
end Go.Proofs.YtcdnkmjjedbbpaaGreatDoor

namespace Go.Proofs.YtcdnkmjjedbbpaaGreatDoor
open Go.RowKit
section
variable {w W : World} {D P L M n B T pages : Nat} {s : Ds}
set_option maxRecDepth 100000 in
set_option maxHeartbeats 4000000 in
/-- A note of a page. -/
theorem mend_note (h : TwS w W D P L M n B T pages s) (hon : s.pm ≠ .off) (hB : B + 7 ≤ 900000) (hn : n ≤ 4096) (hfit : 5 + 4 * pages ≤ n) (hz : allZ (Dv.txt (vw s 0)) = false) (k : Nat) (r : ByteArray) (ht : takeOf (Dv.txt (vw s 0)) 1 = some (k, r)) (hr : r.size ≤ 64) (hk : k < 256) (h1 : 1 ≤ k) (h2 : k ≤ pages) (hzr : allZ r = true) :
    Calls Tryz.prog 35 #[.pointer (some ⟨T, 0, none⟩)] W (TwE w W D P L M n (B + 7) T pages (openM pages s)) := by
  have KR := Lib.hid (read_s h.d 0 (by omega) hn)
  rw [rdV_on hon, show ((0 : Nat) : Int) = 0 from rfl] at KR
  have hs := txt_len (h.d.vlen 0 (by omega))
  have S0 := Lib.hid h
  have t0 := h.t0
  have KX0 := Lib.hid (fun W (hS : TwS w W D P L M n B T pages s) => text_s hS hon 1 (by omega) hn)
  rw [show ((1 : Nat) : Int) = 1 from rfl] at KX0
  have hO : openM pages s = match readOf (txt4 (vw s) 1) with
      | none => (9, s)
      | some (no, _, _) => if no + 1 = k then (er (settleM no (txt4 (vw s) 1) s).1, (settleM no (txt4 (vw s) 1) s).2) else (9, s) := by
    unfold openM
    have hc : ¬ (k < 1 ∨ pages < k ∨ allZ r = false) := fun e => by
      rcases e with e | e | e
      · omega
      · omega
      · rw [hzr] at e; cases e
    cases hp : s.pm with
    | off => exact absurd hp hon
    | on => simp only [hz, ht, if_neg hc]; rfl
    | arm i => simp only [hz, ht, if_neg hc]; rfl
  have hlen : (txt4 (vw s) 1).size = 256 := by
    have e : ∀ j, j < n → (vw s j).length = 64 := h.d.vlen
    unfold txt4
    rw [bstr_size, List.length_append, List.length_append, List.length_append, e _ (by omega), e _ (by omega), e _ (by omega), e _ (by omega)]
  clear h
  generalize Dv.txt (vw s 0) = t at *
  generalize txt4 (vw s) 1 = b at *
  have KB := Lib.hid (fun W => blank_any t (by omega) W)
  have KT := Lib.hid (fun W => take_any t 1 W (by omega) (by omega))
  rw [take_val_some ht] at KT
  have KZ := Lib.hid (fun W => blank_any r (by omega) W)
  have KD := Lib.hid (fun W hT => read_any b W (by omega) hT)
  rw [hz] at KB
  rw [hzr] at KZ
  have k0 : (1 : Int) ≤ (k : Int) := by omega
  have k1 : (k : Int) ≤ (pages : Int) := by omega
  obtain ⟨m, hm⟩ : ∃ m, m + 1 = k := ⟨k - 1, by omega⟩
  have e1 : IntKind.i64.wrap ((k : Int) - 1) = (m : Int) := by rw [IntWalk.i64_in _ (by omega)]; omega
  clear hz hs ht hzr
  cases hrd : readOf b with
  | none =>
    rw [hrd] at hO KD
    have HO := Lib.hid hO
    clear hO hrd hm
    go_enter Tryz.func35, Tryz.ntmps35
    go_wp2_with fail
    refine KR.out.mono ?_
    rintro x w1 ⟨rfl, hb1⟩
    have S1 := Lib.hid (S0.out.below hb1)
    have F1 := Lib.hid (Dv.Fr3.of_below (P := P) (L := L) (M := M) hb1)
    clear hb1 KR S0 t0
    go_wp2_with fail
    refine (KB.out _).mono ?_
    rintro x w2 ⟨rfl, hb2⟩
    have S2 := Lib.hid (S1.out.below hb2)
    have F2 := Lib.hid (F1.out.trans (Dv.Fr3.of_below hb2))
    clear hb2 KB S1 F1
    go_wp2_with fail
    refine (KT.out _).mono ?_
    rintro x w3 ⟨rfl, hb3⟩
    have S3 := Lib.hid (S2.out.below hb3)
    have F3 := Lib.hid (F2.out.trans (Dv.Fr3.of_below hb3))
    have t1 := S3.out.t1
    clear hb3 KT S2 F2
    go_wp2_with fail
    refine (KZ.out _).mono ?_
    rintro x w4 ⟨rfl, hb4⟩
    have S4 := Lib.hid (S3.out.below hb4)
    have F4 := Lib.hid (F3.out.trans (Dv.Fr3.of_below hb4))
    have t0 := S4.out.t0
    clear hb4 KZ S3 F3 t1
    have KX := Lib.hid (KX0.out _ S4.out)
    go_wp2_with fail
    refine KX.out.mono ?_
    rintro x w5 ⟨rfl, hb5⟩
    have S5 := Lib.hid (S4.out.below hb5)
    have F5 := Lib.hid (F4.out.trans (Dv.Fr3.of_below hb5))
    clear hb5 KX KX0 S4 F4 t0
    go_wp2_with fail
    refine (KD.out _ S5.out.tabW).mono ?_
    rintro x w6 ⟨rfl, hb6⟩
    have hba := (Below.refl w6.heap.size w6).alloc (Nat.le_refl _) (.cells #[.int .i64 0, .int .i64 0, .slice none 0 0] 36)
    have S6 := Lib.hid ((S5.out.below hb6).below hba)
    have F6 := Lib.hid ((F5.out.trans (Dv.Fr3.of_below hb6)).trans (Dv.Fr3.of_below hba))
    clear hb6 hba KD S5 F5
    go_upto_region 13 with fail
    generalize w6.alloc (.cells #[.int .i64 0, .int .i64 0, .slice none 0 0] 36) = Y at *
    go_wp2
    go_ret
    exact ⟨by rw [HO.out]; rfl, by rw [HO.out]; exact S6.out.more (by omega), F6.out⟩
  | some q =>
    obtain ⟨no, g, l⟩ := q
    rw [hrd] at hO KD
    by_cases hno : no + 1 = k
    · have HO : Hid (openM pages s = (er (settleM no b s).1, (settleM no b s).2)) := by rw [Hid, hO]; exact if_pos hno
      have hnm : m = no := by omega
      have hpl : place no + 4 ≤ n := by unfold place; omega
      subst hnm
      clear hO hrd hm hno
      go_enter Tryz.func35, Tryz.ntmps35
      go_wp2_with fail
      refine KR.out.mono ?_
      rintro x w1 ⟨rfl, hb1⟩
      have S1 := Lib.hid (S0.out.below hb1)
      have F1 := Lib.hid (Dv.Fr3.of_below (P := P) (L := L) (M := M) hb1)
      clear hb1 KR S0 t0
      go_wp2_with fail
      refine (KB.out _).mono ?_
      rintro x w2 ⟨rfl, hb2⟩
      have S2 := Lib.hid (S1.out.below hb2)
      have F2 := Lib.hid (F1.out.trans (Dv.Fr3.of_below hb2))
      clear hb2 KB S1 F1
      go_wp2_with fail
      refine (KT.out _).mono ?_
      rintro x w3 ⟨rfl, hb3⟩
      have S3 := Lib.hid (S2.out.below hb3)
      have F3 := Lib.hid (F2.out.trans (Dv.Fr3.of_below hb3))
      have t1 := S3.out.t1
      clear hb3 KT S2 F2
      go_wp2_with fail
      refine (KZ.out _).mono ?_
      rintro x w4 ⟨rfl, hb4⟩
      have S4 := Lib.hid (S3.out.below hb4)
      have F4 := Lib.hid (F3.out.trans (Dv.Fr3.of_below hb4))
      have t0 := S4.out.t0
      clear hb4 KZ S3 F3 t1
      have KX := Lib.hid (KX0.out _ S4.out)
      go_wp2_with fail
      refine KX.out.mono ?_
      rintro x w5 ⟨rfl, hb5⟩
      have S5 := Lib.hid (S4.out.below hb5)
      have F5 := Lib.hid (F4.out.trans (Dv.Fr3.of_below hb5))
      clear hb5 KX KX0 S4 F4 t0
      go_wp2_with fail
      refine (KD.out _ S5.out.tabW).mono ?_
      rintro x w6 ⟨a, c, rfl, hrow, hb6⟩
      have hba := (Below.refl w6.heap.size w6).alloc (Nat.le_refl _) (.cells #[.int .i64 (m : Int), .int .i64 (g : Int), .slice a l.length c] 36)
      have S6 := Lib.hid ((S5.out.below hb6).below hba)
      have F6 := Lib.hid ((F5.out.trans (Dv.Fr3.of_below hb6)).trans (Dv.Fr3.of_below hba))
      have c0 : (w6.alloc (.cells #[.int .i64 (m : Int), .int .i64 (g : Int), .slice a l.length c] 36)).cell? ⟨w6.heap.size, 0, none⟩ = some (.int .i64 (m : Int)) := Dv.new_cell rfl rfl
      clear hb6 hba KD S5 F5 hrow
      go_upto_region 13 with fail
      generalize w6.alloc (.cells #[.int .i64 (m : Int), .int .i64 (g : Int), .slice a l.length c] 36) = Y at *
      have KS := Lib.hid (settle_s S6.out hB hn m hpl b hlen)
      clear hlen
      go_wp2_with fail
      refine KS.out.mono ?_
      rintro x w7 ⟨rfl, hs7, hf7⟩
      have S7 := Lib.hid hs7
      have F7 := Lib.hid (F6.out.trans hf7)
      clear hs7 hf7 KS S6 F6
      go_wp2
      go_ret
      exact ⟨by rw [HO.out]; rfl, by rw [HO.out]; exact S7.out, F7.out⟩
    · have HO : Hid (openM pages s = (9, s)) := by rw [Hid, hO]; exact if_neg hno
      have hne : ¬ (no : Int) = (m : Int) := by omega
      clear hO hrd hm hno
      go_enter Tryz.func35, Tryz.ntmps35
      go_wp2_with fail
      refine KR.out.mono ?_
      rintro x w1 ⟨rfl, hb1⟩
      have S1 := Lib.hid (S0.out.below hb1)
      have F1 := Lib.hid (Dv.Fr3.of_below (P := P) (L := L) (M := M) hb1)
      clear hb1 KR S0 t0
      go_wp2_with fail
      refine (KB.out _).mono ?_
      rintro x w2 ⟨rfl, hb2⟩
      have S2 := Lib.hid (S1.out.below hb2)
      have F2 := Lib.hid (F1.out.trans (Dv.Fr3.of_below hb2))
      clear hb2 KB S1 F1
      go_wp2_with fail
      refine (KT.out _).mono ?_
      rintro x w3 ⟨rfl, hb3⟩
      have S3 := Lib.hid (S2.out.below hb3)
      have F3 := Lib.hid (F2.out.trans (Dv.Fr3.of_below hb3))
      have t1 := S3.out.t1
      clear hb3 KT S2 F2
      go_wp2_with fail
      refine (KZ.out _).mono ?_
      rintro x w4 ⟨rfl, hb4⟩
      have S4 := Lib.hid (S3.out.below hb4)
      have F4 := Lib.hid (F3.out.trans (Dv.Fr3.of_below hb4))
      have t0 := S4.out.t0
      clear hb4 KZ S3 F3 t1
      have KX := Lib.hid (KX0.out _ S4.out)
      go_wp2_with fail
      refine KX.out.mono ?_
      rintro x w5 ⟨rfl, hb5⟩
      have S5 := Lib.hid (S4.out.below hb5)
      have F5 := Lib.hid (F4.out.trans (Dv.Fr3.of_below hb5))
      clear hb5 KX KX0 S4 F4 t0
      go_wp2_with fail
      refine (KD.out _ S5.out.tabW).mono ?_
      rintro x w6 ⟨a, c, rfl, hrow, hb6⟩
      have hba := (Below.refl w6.heap.size w6).alloc (Nat.le_refl _) (.cells #[.int .i64 (no : Int), .int .i64 (g : Int), .slice a l.length c] 36)
      have S6 := Lib.hid ((S5.out.below hb6).below hba)
      have F6 := Lib.hid ((F5.out.trans (Dv.Fr3.of_below hb6)).trans (Dv.Fr3.of_below hba))
      have c0 : (w6.alloc (.cells #[.int .i64 (no : Int), .int .i64 (g : Int), .slice a l.length c] 36)).cell? ⟨w6.heap.size, 0, none⟩ = some (.int .i64 (no : Int)) := Dv.new_cell rfl rfl
      clear hb6 hba KD S5 F5 hrow
      go_upto_region 13 with fail
      generalize w6.alloc (.cells #[.int .i64 (no : Int), .int .i64 (g : Int), .slice a l.length c] 36) = Y at *
      go_wp2
      go_ret
      exact ⟨by rw [HO.out]; rfl, by rw [HO.out]; exact S6.out.more (by omega), F6.out⟩
end
end Go.Proofs.YtcdnkmjjedbbpaaGreatDoor

namespace Go.Proofs.YtcdnkmjjedbbpaaGreatDoor
open Go.RowKit
section
variable {w W : World} {D P L M n B T pages : Nat} {s : Ds}
/-- mend, of any device that holds pages. -/
theorem mend_s (h : TwS w W D P L M n B T pages s) (hB : B + 7 ≤ 900000) (hn : n ≤ 4096) (hfit : 5 + 4 * pages ≤ n) :
    Calls Tryz.prog 35 #[.pointer (some ⟨T, 0, none⟩)] W (TwE w W D P L M n (B + 7) T pages (openM pages s)) := by
  by_cases ho : s.pm = .off
  · have e : openM pages s = (6, s) := by unfold openM; rw [ho]
    rw [e]
    refine (mend_off h ho hn (by omega)).mono ?_
    rintro x w' ⟨rfl, hb⟩
    exact ⟨rfl, (h.below hb).more (by omega), Dv.Fr3.of_below hb⟩
  · have hs := txt_len (h.d.vlen 0 (by omega))
    cases hz : allZ (Dv.txt (vw s 0)) with
    | true =>
      have e : openM pages s = (0, s) := by
        unfold openM
        cases hp : s.pm with
        | off => exact absurd hp ho
        | on => simp only [hz]; rfl
        | arm i => simp only [hz]; rfl
      rw [e]
      refine (mend_blank h ho hn (by omega) hz).mono ?_
      rintro x w' ⟨rfl, hb⟩
      exact ⟨rfl, (h.below hb).more (by omega), Dv.Fr3.of_below hb⟩
    | false =>
      obtain ⟨k, hk, ht⟩ := take1 hs
      have hr : ((Dv.txt (vw s 0)).extract 1 64).size ≤ 64 := by rw [ByteArray.size_extract]; omega
      by_cases hbad : k < 1 ∨ pages < k ∨ allZ ((Dv.txt (vw s 0)).extract 1 64) = false
      · have e : openM pages s = (9, s) := by
          unfold openM
          cases hp : s.pm with
          | off => exact absurd hp ho
          | on => simp only [hz, ht, if_pos hbad]; rfl
          | arm i => simp only [hz, ht, if_pos hbad]; rfl
        rw [e]
        refine (mend_bad h ho hn (by omega) hz k _ ht hr hk hbad).mono ?_
        rintro x w' ⟨rfl, hb⟩
        exact ⟨rfl, (h.below hb).more (by omega), Dv.Fr3.of_below hb⟩
      · have hzr : allZ ((Dv.txt (vw s 0)).extract 1 64) = true := by
          cases h3 : allZ ((Dv.txt (vw s 0)).extract 1 64) with
          | true => rfl
          | false => exact absurd (.inr (.inr h3)) hbad
        exact mend_note h ho hB hn hfit hz k _ ht hr hk (by omega) (by omega) hzr
/-- What Open answers, and leaves. -/
def OpP (w W : World) (D P L M n B pages : Nat) (o : Int × Ds) (x : Ending) (w' : World) : Prop := ∃ T, x = .returned (.tuple #[if o.1 = 0 then .pointer (some ⟨T, 0, none⟩) else .pointer none, .int .i64 o.1]) ∧ TwS w w' D P L M n B T pages o.2 ∧ Dv.Fr3 P L M W w' ∧ W.heap.size ≤ T
theorem open_bad (h : DvS W D P L M n B s) (p : Int) (hb : fitsB n p = false) : Calls Tryz.prog 15 #[.pointer (some ⟨D, 0, none⟩), .int .i64 p] W fun x w' => x = .returned (.tuple #[.pointer none, .int .i64 1]) ∧ W = w' := by
  have KF := Lib.hid (fits_dev h p)
  rw [hb] at KF
  clear h hb
  go_enter Tryz.func15, Tryz.ntmps15
  go_wp2_with fail
  refine KF.out.mono ?_
  rintro x w1 ⟨rfl, rfl⟩
  go_wp2
  go_ret2
  exact ⟨rfl, rfl⟩
theorem open_nil (p : Int) (W : World) : Calls Tryz.prog 15 #[.pointer none, .int .i64 p] W fun x w' => x = .returned (.tuple #[.pointer none, .int .i64 1]) ∧ W = w' := by
  have KF := Lib.hid (fun W => fits_nil p W)
  go_enter Tryz.func15, Tryz.ntmps15
  go_wp2_with fail
  refine (KF.out _).mono ?_
  rintro x w1 ⟨rfl, rfl⟩
  go_wp2
  go_ret2
  exact ⟨rfl, rfl⟩
theorem open_s (h : DvB w W D P L M n B s) (hB : B + 7 ≤ 900000) (hn : n ≤ 4096) (p : Nat) (h1 : 1 ≤ p) (h2 : p ≤ 64) (h3 : 5 + 4 * p ≤ n) :
    Calls Tryz.prog 15 #[.pointer (some ⟨D, 0, none⟩), .int .i64 (p : Int)] W (OpP w W D P L M n (B + 7) p (openM p s)) := by
  have KF := Lib.hid (fits_dev h.d (p : Int))
  rw [fits_yes h1 h2 h3] at KF
  have S1 := Lib.hid (h.tw p 62)
  have F1 := Lib.hid (Dv.Fr3.of_below (P := P) (L := L) (M := M) ((Below.refl W.heap.size W).alloc (Nat.le_refl _) (.cells #[.pointer (some ⟨D, 0, none⟩), .int .i64 (p : Int)] 62)))
  have KM := Lib.hid (mend_s S1.out hB hn h3)
  clear h S1
  obtain ⟨O, hO⟩ : ∃ O, openM p s = O := ⟨_, rfl⟩
  rw [hO] at KM ⊢
  obtain ⟨e, s2⟩ := O
  by_cases he : e = 0
  · subst he
    have KM2 := Lib.hid (KM.out.mono fun x w' (hh : TwE _ _ _ _ _ _ _ _ _ _ _ x w') => (hh : x = .returned (.int .i64 0) ∧ TwS w w' D P L M n (B + 7) W.heap.size p s2 ∧ Dv.Fr3 P L M _ w'))
    clear KM hO
    go_enter Tryz.func15, Tryz.ntmps15
    go_wp2_with fail
    refine KF.out.mono ?_
    rintro x w1 ⟨rfl, rfl⟩
    go_wp2_with fail
    refine KM2.out.mono ?_
    rintro x w2 ⟨rfl, hs2, hf2⟩
    have S2 := Lib.hid hs2
    have F2 := Lib.hid (F1.out.trans hf2)
    clear hs2 hf2 KM2 KF F1
    go_wp2
    go_ret2
    exact ⟨_, rfl, S2.out, F2.out, Nat.le_refl _⟩
  · have KM2 := Lib.hid (KM.out.mono fun x w' (hh : TwE _ _ _ _ _ _ _ _ _ _ _ x w') => (hh : x = .returned (.int .i64 e) ∧ TwS w w' D P L M n (B + 7) W.heap.size p s2 ∧ Dv.Fr3 P L M _ w'))
    have hv : Hid ((if ((e, s2) : Int × Ds).1 = 0 then Value.pointer (some ⟨W.heap.size, 0, none⟩) else Value.pointer none) = Value.pointer none) := if_neg he
    clear KM hO
    go_enter Tryz.func15, Tryz.ntmps15
    go_wp2_with fail
    refine KF.out.mono ?_
    rintro x w1 ⟨rfl, rfl⟩
    go_wp2_with fail
    refine KM2.out.mono ?_
    rintro x w2 ⟨rfl, hs2, hf2⟩
    have S2 := Lib.hid hs2
    have F2 := Lib.hid (F1.out.trans hf2)
    clear hs2 hf2 KM2 KF F1
    go_wp2
    go_ret2
    exact ⟨_, by rw [hv.out]; rfl, S2.out, F2.out, Nat.le_refl _⟩
end
end Go.Proofs.YtcdnkmjjedbbpaaGreatDoor

namespace Go.Proofs.YtcdnkmjjedbbpaaGreatDoor
open Go.RowKit
theorem read_blank : readOf blank256 = none := by decide +kernel
theorem home_at {t : ByteArray} {k : Nat} {p : Pg} (h : Home t k p) : pgAt t k = some (p.1.toNat, p.2) ∧ 0 ≤ p.1 := by
  rcases h with ⟨h1, h2⟩ | ⟨h1, h2⟩
  · subst h1 h2
    refine ⟨?_, Int.le_refl _⟩
    unfold pgAt
    rw [if_pos (show allZ blank256 = true from allZ_yes 256)]; rfl
  · have h0 := (pgOk_parts h1).2.2.1
    refine ⟨?_, h0⟩
    have hr := readOf_bytes h1
    have hz : allZ t = false := by
      cases hz : allZ t with
      | false => rfl
      | true =>
        have := allZ_no hz
        rw [h2, pg_size h1] at this
        rw [this, show bstr (List.replicate 256 0) = blank256 from rfl, read_blank] at hr
        cases hr
    unfold pgAt
    rw [if_neg (by rw [hz]; decide), h2, hr]
    exact if_pos (Int.toNat_natCast k)
/-- A call that goes well where the power is on, and leaves it on. -/
def OnOk (m : Ds → Bool × Ds) : Prop := ∀ s, s.pm = .on → (m s).1 = true ∧ (m s).2.pm = .on
theorem OnOk.wr (i : Nat) (l : List UInt8) : OnOk (wr i l) := fun s h => by
  rw [wr_yes (by rw [h]; rfl)]
  exact ⟨rfl, by show s.pm.use.1 = _; rw [h]; rfl⟩
theorem OnOk.sy : OnOk sy := fun s h => by
  rw [sy_yes (by rw [h]; rfl)]
  exact ⟨rfl, by show s.pm.use.1 = _; rw [h]; rfl⟩
theorem OnOk.sq {a b : Ds → Bool × Ds} (ha : OnOk a) (hb : OnOk b) : OnOk (sq a b) := fun s h => by
  obtain ⟨h1, h2⟩ := ha s h
  rw [sq_t h1]
  exact hb _ h2
theorem OnOk.layK (a : Nat) (b : ByteArray) : ∀ m, OnOk (layK m a b)
  | 0 => OnOk.sy
  | m + 1 => OnOk.sq (OnOk.wr _ _) (OnOk.layK a b m)
theorem OnOk.note (k : Nat) : OnOk (noteM k) := OnOk.sq (OnOk.wr _ _) OnOk.sy
theorem OnOk.settle (no : Nat) (b : ByteArray) : OnOk (settleM no b) := OnOk.sq (OnOk.layK _ _ 4) (OnOk.note 0)
theorem OnOk.store (no : Nat) (b : ByteArray) : OnOk (storeM no b) := OnOk.sq (OnOk.layK _ _ 4) (OnOk.sq (OnOk.note _) (OnOk.settle _ _))
theorem setPg_same (now : Nat → Pg) (k : Nat) : setPg now k (now k) = now := by
  funext j
  unfold setPg
  split
  · rename_i e; rw [e]
  · rfl
theorem be_one1 (k : Nat) (h : k < 256) : be 1 k = [UInt8.ofNat k] := by
  unfold be
  simp [Nat.mod_eq_of_lt h]
theorem note_txt (k : Nat) : Dv.txt (Dv.pad (noteL k)) = bstr (be 1 k ++ List.replicate 63 0) := by
  unfold Dv.pad noteL
  rw [be_len]; rfl
theorem note_take (k : Nat) (h : k < 256) : takeOf (Dv.txt (Dv.pad (noteL k))) 1 = some (k, bstr (List.replicate 63 0)) := by
  rw [note_txt]
  exact takeOf_be (K := 1) (by omega) (by omega) (by omega) (by omega) _
theorem note_zero : allZ (Dv.txt (Dv.pad (noteL 0))) = true := by
  rw [note_txt, be_one1 0 (by omega)]
  exact allZ_yes 64
theorem note_some (k : Nat) (h1 : 1 ≤ k) (h : k < 256) : allZ (Dv.txt (Dv.pad (noteL k))) = false := by
  cases hz : allZ (Dv.txt (Dv.pad (noteL k))) with
  | false => rfl
  | true =>
    have h2 := allZ_no hz
    rw [note_txt, be_one1 k h] at h2
    have h3 : (bstr ([UInt8.ofNat k] ++ List.replicate 63 0)).data.toList = List.replicate 64 0 := by
      rw [h2, bstr_data, bstr_size]; rfl
    rw [bstr_data] at h3
    have h4 : UInt8.ofNat k = 0 := by
      have := congrArg List.head? h3
      simpa using this
    have h5 := congrArg UInt8.toNat h4
    rw [UInt8.toNat_ofNat'] at h5
    simp at h5
    omega
section
variable {np : Nat} {now : Nat → Pg}
theorem vw_none {s : Ds} (h : ∀ j : Nat, s.f (j : Int) = none) : vw s = s.g := by
  funext j; unfold vw; rw [h]; rfl
theorem Inv.safe {s : Ds} (h : Inv np s.g now) (hf : ∀ j : Nat, s.f (j : Int) = none) : Safe (fun g => Inv np g now) s := fun g2 hk => by
  have : g2 = s.g := funext fun j => hk.out (hf j)
  rw [this]; exact h
/-- What an Open finds. -/
structure Opn (np : Nat) (now : Nat → Pg) (s : Ds) (o : Int × Ds) : Prop where
  ok : o.1 = 0 → Still np now o.2
  no : o.1 ≠ 0 → Safe (fun g => Inv np g now) o.2
  on : s.pm = .on → o.1 = 0 ∧ o.2.pm = .on
theorem open_inv {s : Ds} (h : Inv np s.g now) (hf : ∀ j : Nat, s.f (j : Int) = none) (hnp : np ≤ 64) : Opn np now s (openM np s) := by
  by_cases ho : s.pm = .off
  · have e : openM np s = (6, s) := by unfold openM; rw [ho]
    rw [e]
    exact ⟨(fun h => by cases h), fun _ => h.safe hf, (fun h2 => by rw [ho] at h2; cases h2)⟩
  rcases h with ⟨h1, h2⟩ | ⟨k, hk, h1, h2, h3, h4⟩
  · have e : openM np s = (0, s) := by
      unfold openM
      have hz : allZ (Dv.txt (vw s 0)) = true := by rw [vw_none hf, show s.g 0 = _ from h1]; exact note_zero
      cases hp : s.pm with
      | off => exact absurd hp ho
      | on => simp only [hz]; rfl
      | arm i => simp only [hz]; rfl
    rw [e]
    exact ⟨fun _ => ⟨h1, h2, hf⟩, (fun h => absurd rfl h), fun h2 => ⟨rfl, h2⟩⟩
  · have hb : txt4 (vw s) 1 = pgBytes k (now k).1 (now k).2 := by rw [vw_none hf]; exact txt4_sec (pg_size h2) h3
    have hr := readOf_bytes h2
    have e : openM np s = (er (settleM k (pgBytes k (now k).1 (now k).2) s).1, (settleM k (pgBytes k (now k).1 (now k).2) s).2) := by
      unfold openM
      have hz : allZ (Dv.txt (vw s 0)) = false := by rw [vw_none hf, show s.g 0 = _ from h1]; exact note_some _ (by omega) (by omega)
      have ht : takeOf (Dv.txt (vw s 0)) 1 = some (k + 1, bstr (List.replicate 63 0)) := by rw [vw_none hf, show s.g 0 = _ from h1]; exact note_take _ (by omega)
      have hc : ¬ (k + 1 < 1 ∨ np < k + 1 ∨ allZ (bstr (List.replicate 63 0)) = false) := fun e => by
        rcases e with e | e | e
        · omega
        · omega
        · rw [allZ_yes] at e; cases e
      cases hp : s.pm with
      | off => exact absurd hp ho
      | on => simp only [hz, ht, if_neg hc, hb, hr, Int.toNat_natCast]; rfl
      | arm i => simp only [hz, ht, if_neg hc, hb, hr, Int.toNat_natCast]; rfl
    have hC : StC np now k (now k) 0 s := ⟨h1, h4, h3, fun j _ => hf j, fun _ hj => by omega⟩
    have hs := settleM_ht (now := now) hk h2 s hC
    rw [setPg_same] at hs
    rw [e]
    refine ⟨fun h => hs.1 ?_, fun h => hs.2 ?_, fun h => ?_⟩
    · cases hb : (settleM k (pgBytes k (now k).1 (now k).2) s).1 with
      | true => rfl
      | false => rw [hb] at h; cases h
    · cases hb : (settleM k (pgBytes k (now k).1 (now k).2) s).1 with
      | false => rfl
      | true => rw [hb] at h; exact absurd rfl h
    · obtain ⟨a, b⟩ := OnOk.settle k (pgBytes k (now k).1 (now k).2) s h
      exact ⟨er_t a, b⟩
/-- A new device of pages: all of them are empty. -/
theorem still_new : Still np (fun _ => (0, [])) dsNew := ⟨by
    show Dv.blank64 = Dv.pad (noteL 0)
    unfold Dv.blank64 noteL Dv.pad
    rw [be_one1 0 (by omega)]; rfl, fun k _ _ => .inl ⟨by
    show bstr (Dv.blank64 ++ Dv.blank64 ++ Dv.blank64 ++ Dv.blank64) = blank256
    decide +kernel, rfl⟩, fun _ => rfl⟩
theorem Still.armed {s : Ds} (h : Still np now s) (pm : Pm) : Still np now ⟨pm, s.g, s.f⟩ := ⟨h.note, h.homes, h.loose⟩
end
end Go.Proofs.YtcdnkmjjedbbpaaGreatDoor
