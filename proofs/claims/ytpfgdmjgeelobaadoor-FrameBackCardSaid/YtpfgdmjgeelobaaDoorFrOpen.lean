/-
  THE CONTRACT OF frame.Open.
-/
import Derived.Test.YtpfgdmjgeelobaaDoorFrRead
namespace Go.Proofs.YtpfgdmjgeelobaaDoor
open Go.RowKit Crc

/-- What Open answers. -/
def openVal (s : ByteArray) : Value :=
  if frOk s then .tuple #[.agg #[.int .i64 (frE s), .int .i64 (frA s), .int .i64 (frG s), .string (frD s)], .int .i64 ((25 + frN s : Nat) : Int), .bool true]
  else .tuple #[.agg #[.int .i64 0, .int .i64 0, .int .i64 0, .string ⟨#[]⟩], .int .i64 0, .bool false]
theorem openVal_yes {s : ByteArray} (h : frOk s = true) : openVal s = .tuple #[.agg #[.int .i64 (frE s), .int .i64 (frA s), .int .i64 (frG s), .string (frD s)], .int .i64 ((25 + frN s : Nat) : Int), .bool true] := by
  unfold openVal; rw [if_pos h]
theorem openVal_no {s : ByteArray} (h : frOk s = false) : openVal s = .tuple #[.agg #[.int .i64 0, .int .i64 0, .int .i64 0, .string ⟨#[]⟩], .int .i64 0, .bool false] := by
  unfold openVal; rw [if_neg (by rw [h]; simp)]

theorem take_sub (L : List UInt8) (m i k : Nat) (h : i + k ≤ m) : ((L.take m).drop i).take k = (L.drop i).take k := by
  rw [List.drop_take, List.take_take]; congr 1; omega
/-- The parts of the bytes that are ahead of the sum are those of all. -/
theorem laid_reads (s : ByteArray) (h : 25 + frN s ≤ s.size) :
    ((s.extract 0 (25 + frN s)).extract 0 (21 + frN s)) = s.extract 0 (21 + frN s) ∧ (s.extract 0 (21 + frN s)).size = 21 + frN s ∧ frE (s.extract 0 (21 + frN s)) = frE s ∧ frA (s.extract 0 (21 + frN s)) = frA s ∧ frG (s.extract 0 (21 + frN s)) = frG s ∧
      (s.extract 0 (21 + frN s)).extract 21 (s.extract 0 (21 + frN s)).size = frD s := by
  have hz : (s.extract 0 (21 + frN s)).size = 21 + frN s := by rw [ByteArray.size_extract]; omega
  have hL : (s.extract 0 (21 + frN s)).data.toList = s.data.toList.take (21 + frN s) := by rw [extract_list, List.drop_zero, Nat.sub_zero]
  refine ⟨?_, hz, ?_, ?_, ?_, ?_⟩
  · apply ByteArray.ext
    apply Array.toList_inj.1
    rw [extract_list, extract_list, hL, List.drop_zero, List.drop_zero, List.take_take]
    congr 1; omega
  · unfold frE; rw [hL, take_sub _ _ _ _ (by omega)]
  · unfold frA; rw [hL, take_sub _ _ _ _ (by omega)]
  · unfold frG; rw [hL, take_sub _ _ _ _ (by omega)]
  · apply ByteArray.ext
    apply Array.toList_inj.1
    unfold frD
    rw [extract_list, hz, hL, take_sub _ _ _ _ (by omega), extract_list]

theorem take1_some (s : ByteArray) (h : 1 ≤ s.size) : takeVal s ((1 : Nat) : Int) = .tuple #[.int .i64 (frN s), .string (s.extract 1 s.size), .bool true] := by
  have hx : s.extract 0 s.size = s := by
    apply ByteArray.ext
    apply Array.toList_inj.1
    rw [extract_list, List.drop_zero, List.take_of_length_le (by rw [list_len]; omega)]
  have := take_at s 0 1 (by omega) (by omega) (by omega) (by have := frN_lt s; unfold frN at this; rw [List.drop_zero]; omega)
  rw [hx, List.drop_zero] at this
  exact this
theorem take1_none (s : ByteArray) (h : s.size = 0) : takeVal s ((1 : Nat) : Int) = .tuple #[.int .i64 0, .string s, .bool false] :=
  takeVal_none (by omega)

set_option maxHeartbeats 1000000 in
theorem open_fr (s : ByteArray) (w : World) (hs : s.size ≤ 100000) (ht : Tab w) :
    Calls Tryd.prog 13 #[.string s] w fun x w' => x = .returned (openVal s) ∧ Below w.heap.size w w' := by
  have HT := Lib.hid ht; clear ht
  have HK : Hid (∀ (v : Value), takeVal s ((1 : Nat) : Int) = v → ∀ W, Calls Tryd.prog 28 #[.string s, .int .i64 ((1 : Nat) : Int)] W fun e w' => e = .returned v ∧ Below W.heap.size W w') :=
    fun v hv W => by subst hv; exact take_any s 1 W (by omega) (by omega)
  have hn := frN_lt s
  by_cases h1 : 1 ≤ s.size
  · have H1 := Lib.hid (HK.out _ (take1_some s h1))
    clear HK
    by_cases h2 : 25 + frN s ≤ s.size
    · obtain ⟨hx, hz, hE, hA, hG, hD⟩ := laid_reads s h2
      have hxs : (s.extract 0 (25 + frN s)).size = 25 + frN s := by rw [ByteArray.size_extract]; omega
      have HO := Lib.hid (fun W (hW : Below w.heap.size w W) => open_any (s.extract 0 (25 + frN s)) W (by rw [hxs]; unfold maxLen; omega) (HT.out.below hW))
      cases hse : isSealed (s.extract 0 (25 + frN s))
      · have hok : frOk s = false := by unfold frOk; rw [hse]; simp
        rw [openVal_no hok]
        have ho : openRes (s.extract 0 (25 + frN s)) = (⟨#[]⟩, false) := by unfold openRes; rw [if_neg (by rw [hse]; simp)]
        rw [ho] at HO
        clear hx hz hE hA hG hD hxs hse hok ho
        generalize frN s = n at *
        go_enter Tryd.func13, Tryd.ntmps13
        go_wp2_with fail
        refine (H1.out _).mono ?_
        rintro x w1 ⟨rfl, hb1⟩
        have hbw := ((Below.refl _ w).alloc (Nat.le_refl _) _).trans ((after_alloc hb1).mono (Nat.le_succ _))
        go_wp2_with fail
        refine (HO.out _ hbw).mono ?_
        rintro x w2 ⟨rfl, hb2⟩
        have hb3 := after_alloc (hb1.trans (hb2.mono hb1.size))
        have hc6 := block_cells hb3 rfl
        go_wp2
        obtain ⟨W', hW', c0, c1, c2, c3, hbW⟩ := set4 (v0 := .int .i64 0) (v1 := .int .i64 0) (v2 := .int .i64 0) (v3 := .string ⟨#[]⟩) (((Below.refl _ w).alloc (Nat.le_refl _) _).trans (hb3.mono (by omega))) (Nat.le_refl _) hc6.1
        rw [← hW']
        refine bodyPost_ret (v := .tuple #[.agg #[.int .i64 0, .int .i64 0, .int .i64 0, .string ⟨#[]⟩], .int .i64 0, .bool false]) (by simp [results, Tryd.results13, go_sem, c0, c1, c2, c3]) rfl ⟨rfl, hbW⟩
      · have ho : openRes (s.extract 0 (25 + frN s)) = (s.extract 0 (21 + frN s), true) := by
          unfold openRes; rw [if_pos hse, hxs, show 25 + frN s - 4 = 21 + frN s from by omega, hx]
        rw [ho] at HO
        have HR := Lib.hid (fun W => read_any (s.extract 0 (21 + frN s)) W (by omega) (by omega))
        unfold ReadPost at HR
        rw [hE, hA, hG, hD, hz, show 21 + frN s - 21 = frN s from by omega] at HR
        have hok : frOk s = frRight (frE s) (frA s) (frG s) (frN s) := by unfold frOk; rw [hse]; simp; omega
        cases hr : frRight (frE s) (frA s) (frG s) (frN s)
        · rw [hr] at hok HR
          rw [openVal_no hok]
          clear hx hz hE hA hG hD hxs hse hok ho hr
          generalize frN s = n at *
          go_enter Tryd.func13, Tryd.ntmps13
          go_wp2_with fail
          refine (H1.out _).mono ?_
          rintro x w1 ⟨rfl, hb1⟩
          have hbw := ((Below.refl _ w).alloc (Nat.le_refl _) _).trans ((after_alloc hb1).mono (Nat.le_succ _))
          go_wp2_with fail
          refine (HO.out _ hbw).mono ?_
          rintro x w2 ⟨rfl, hb2⟩
          have hb2 := hb1.trans (hb2.mono hb1.size)
          go_wp2_with fail
          refine (HR.out _).mono ?_
          rintro x w3 ⟨e, a, g, d, ok, rfl, rfl, _, hb3⟩
          have hb3 := after_alloc (hb2.trans (hb3.mono hb2.size))
          have hs3 := hb3.size
          rw [World.size_alloc] at hs3
          have hc5 := block_cells hb3 rfl
          have hc6 := block_cells (hb3.alloc hs3 (.cells #[.int .i64 e, .int .i64 a, .int .i64 g, .string d] 29)) rfl
          have hne := World.new_ne w3 ⟨w.heap.size, 0, none⟩ (hc5.1 0)
          go_wp2
          obtain ⟨W', hW', c0, c1, c2, c3, hbW⟩ := set4 (v0 := .int .i64 0) (v1 := .int .i64 0) (v2 := .int .i64 0) (v3 := .string ⟨#[]⟩) (((Below.refl _ w).alloc (Nat.le_refl _) _).trans ((hb3.alloc hs3 (.cells #[.int .i64 e, .int .i64 a, .int .i64 g, .string d] 29)).mono (by omega))) (Nat.le_refl _) hc6.1
          rw [← hW']
          refine bodyPost_ret (v := .tuple #[.agg #[.int .i64 0, .int .i64 0, .int .i64 0, .string ⟨#[]⟩], .int .i64 0, .bool false]) (by simp [results, Tryd.results13, go_sem, c0, c1, c2, c3]) rfl ⟨rfl, hbW⟩
        · rw [hr] at hok HR
          rw [openVal_yes hok]
          clear hx hz hE hA hG hD hxs hse hok ho hr
          generalize frN s = n at *
          generalize frE s = E at *
          generalize frA s = A at *
          generalize frG s = G at *
          generalize frD s = D at *
          go_enter Tryd.func13, Tryd.ntmps13
          go_wp2_with fail
          refine (H1.out _).mono ?_
          rintro x w1 ⟨rfl, hb1⟩
          have hbw := ((Below.refl _ w).alloc (Nat.le_refl _) _).trans ((after_alloc hb1).mono (Nat.le_succ _))
          go_wp2_with fail
          refine (HO.out _ hbw).mono ?_
          rintro x w2 ⟨rfl, hb2⟩
          have hb2 := hb1.trans (hb2.mono hb1.size)
          go_wp2_with fail
          refine (HR.out _).mono ?_
          rintro x w3 ⟨e, a, g, d, ok, rfl, rfl, hall, hb3⟩
          obtain ⟨rfl, rfl, rfl, rfl⟩ := hall rfl
          have hb3 := after_alloc (hb2.trans (hb3.mono hb2.size))
          have hs3 := hb3.size
          rw [World.size_alloc] at hs3
          have hc5 := block_cells hb3 rfl
          have hc6 := block_cells (hb3.alloc hs3 (.cells #[.int .i64 E, .int .i64 A, .int .i64 G, .string d] 29)) rfl
          have hne := World.new_ne w3 ⟨w.heap.size, 0, none⟩ (hc5.1 0)
          go_wp2
          obtain ⟨W', hW', c0, c1, c2, c3, hbW⟩ := set4 (v0 := .int .i64 E) (v1 := .int .i64 A) (v2 := .int .i64 G) (v3 := .string d) (((Below.refl _ w).alloc (Nat.le_refl _) _).trans ((hb3.alloc hs3 (.cells #[.int .i64 E, .int .i64 A, .int .i64 G, .string d] 29)).mono (by omega))) (Nat.le_refl _) hc6.1
          rw [← hW']
          refine bodyPost_ret (v := .tuple #[.agg #[.int .i64 E, .int .i64 A, .int .i64 G, .string d], .int .i64 (25 + n), .bool true]) (by simp [results, Tryd.results13, go_sem, c0, c1, c2, c3]) rfl ⟨by congr 1, hbW⟩
    · have hok : frOk s = false := by unfold frOk; simp [show ¬ 25 + frN s ≤ s.size from h2]
      rw [openVal_no hok]
      clear hok
      generalize frN s = n at *
      have hlt : (s.size : Int) < 25 + (n : Int) := by omega
      go_enter Tryd.func13, Tryd.ntmps13
      go_wp2_with fail
      refine (H1.out _).mono ?_
      rintro x w1 ⟨rfl, hb1⟩
      have hb3 := after_alloc hb1
      have hc6 := block_cells hb3 rfl
      go_wp2
      obtain ⟨W', hW', c0, c1, c2, c3, hbW⟩ := set4 (v0 := .int .i64 0) (v1 := .int .i64 0) (v2 := .int .i64 0) (v3 := .string ⟨#[]⟩) (((Below.refl _ w).alloc (Nat.le_refl _) _).trans (hb3.mono (by omega))) (Nat.le_refl _) hc6.1
      rw [← hW']
      refine bodyPost_ret (v := .tuple #[.agg #[.int .i64 0, .int .i64 0, .int .i64 0, .string ⟨#[]⟩], .int .i64 0, .bool false]) (by simp [results, Tryd.results13, go_sem, c0, c1, c2, c3]) rfl ⟨rfl, hbW⟩
  · have hok : frOk s = false := by unfold frOk; simp [show ¬ 25 ≤ s.size by omega]
    rw [openVal_no hok]
    have H1 := Lib.hid (HK.out _ (take1_none s (by omega)))
    clear HK hok hn
    go_enter Tryd.func13, Tryd.ntmps13
    go_wp2_with fail
    refine (H1.out _).mono ?_
    rintro x w1 ⟨rfl, hb1⟩
    have hb3 := after_alloc hb1
    have hc6 := block_cells hb3 rfl
    go_wp2
    obtain ⟨W', hW', c0, c1, c2, c3, hbW⟩ := set4 (v0 := .int .i64 0) (v1 := .int .i64 0) (v2 := .int .i64 0) (v3 := .string ⟨#[]⟩) (((Below.refl _ w).alloc (Nat.le_refl _) _).trans (hb3.mono (by omega))) (Nat.le_refl _) hc6.1
    rw [← hW']
    refine bodyPost_ret (v := .tuple #[.agg #[.int .i64 0, .int .i64 0, .int .i64 0, .string ⟨#[]⟩], .int .i64 0, .bool false]) (by simp [results, Tryd.results13, go_sem, c0, c1, c2, c3]) rfl ⟨rfl, hbW⟩
end Go.Proofs.YtpfgdmjgeelobaaDoor
