/-
  THE CONTRACT OF twice's store: a page is written, as far as the power lasts; one that isn't right, or isn't there, is refused.
-/
import Derived.Test.YtkemhkmabbladaaGreatDoorTwText
namespace Go.Proofs.YtkemhkmabbladaaGreatDoor
open Go.RowKit
theorem ba_neL2 {s : ByteArray} (h : s.size = 256) : (s.toList == []) = false ∧ ¬ s.toList = [] ∧ s.toList.isEmpty = false := by
  have hz : s.toList ≠ [] := fun e => by
    rw [ByteArray.toList_eq] at e
    have := Dv.ba_len s
    rw [e, h] at this
    cases this
  refine ⟨?_, hz, by rw [List.isEmpty_eq_false_iff]; exact hz⟩
  rw [beq_eq_false_iff_ne]; exact hz
section
variable {w W : World} {D P L M n B T pages : Nat} {s : Ds}
theorem TwP.t {x : Ending} {w' : World} {o : Bool × Ds} (h : TwP w W D P L M n B T pages o x w') (ho : o.1 = true) : x = .returned (.int .i64 0) ∧ TwS w w' D P L M n B T pages o.2 ∧ Dv.Fr3 P L M W w' := by
  unfold TwP at h; rw [er_t ho] at h; exact h
theorem TwP.f {x : Ending} {w' : World} {o : Bool × Ds} (h : TwP w W D P L M n B T pages o x w') (ho : o.1 = false) : x = .returned (.int .i64 6) ∧ TwS w w' D P L M n B T pages o.2 ∧ Dv.Fr3 P L M W w' := by
  unfold TwP at h; rw [er_f ho] at h; exact h
set_option maxRecDepth 100000 in
set_option maxHeartbeats 4000000 in
theorem store_ok (h : TwS w W D P L M n B T pages s) (hB : B + 14 ≤ 900000) (hn : n ≤ 4096) (hfit : 5 + 4 * pages ≤ n) (no : Nat) (g : Int) (a : Option Addr) (l : List (ByteArray × ByteArray)) (c : Nat) (ha : ClsAt W a l) (hno : no < pages) (ho : pgOk no g l = true) :
    Calls Tryz.prog 78 #[.pointer (some ⟨T, 0, none⟩), .agg #[.int .i64 (no : Int), .int .i64 g, .slice a l.length c]] W (TwP w W D P L M n (B + 14) T pages (storeM no (pgBytes no g l) s)) := by
  have hno6 : no < 64 := by have := (pgOk_parts ho).2.1; omega
  have hba := (Below.refl W.heap.size W).alloc (Nat.le_refl _) (.cells #[.int .i64 (no : Int), .int .i64 g, .slice a l.length c] 36)
  have KL := Lib.hid (pgLaid_any no g a l c _ (ha.below hba) ((h.below hba).tabW) ho)
  have hsz := pgBytes_size ho
  have S0 := Lib.hid (h.below hba)
  have F0 := Lib.hid (Dv.Fr3.of_below (P := P) (L := L) (M := M) hba)
  have c0 : (W.alloc (.cells #[.int .i64 (no : Int), .int .i64 g, .slice a l.length c] 36)).cell? ⟨W.heap.size, 0, none⟩ = some (.int .i64 (no : Int)) := Dv.new_cell rfl rfl
  have d1 : (W.alloc (.cells #[.int .i64 (no : Int), .int .i64 g, .slice a l.length c] 36)).cell? ⟨W.heap.size, 1, none⟩ = some (.int .i64 g) := Dv.new_cell rfl rfl
  have d2 : (W.alloc (.cells #[.int .i64 (no : Int), .int .i64 g, .slice a l.length c] 36)).cell? ⟨W.heap.size, 2, none⟩ = some (.slice a l.length c) := Dv.new_cell rfl rfl
  have hN : W.heap.size ≠ P ∧ W.heap.size ≠ L ∧ W.heap.size ≠ M := by have := h.d.lts; omega
  obtain ⟨b, hb⟩ : ∃ b, b = pgBytes no g l := ⟨_, rfl⟩
  rw [← hb] at KL hsz ⊢
  obtain ⟨hn1, hn2, hn3⟩ := ba_neL2 hsz
  have hge : decide ((pages : Int) ≤ (no : Int)) = false := by rw [decide_eq_false_iff_not]; omega
  have hlt : (no : Int) < (pages : Int) := by omega
  have hno0 : (0 : Int) ≤ (no : Int) := by omega
  have hno1 : (no : Int) < 64 := by omega
  have e1 : ((no : Int) + 1) = ((no + 1 : Nat) : Int) := by omega
  have hpl : place no + 4 ≤ n := by unfold place; omega
  clear hb ha hba
  obtain ⟨Q, hQ⟩ : ∃ Q, Q = W.heap.size := ⟨_, rfl⟩
  rw [← hQ] at c0 d1 d2 hN
  go_enter Tryz.func78, Tryz.ntmps78
  go_upto_region 1 with fail
  rw [← hQ]
  generalize W.alloc (.cells #[.int .i64 (no : Int), .int .i64 g, .slice a l.length c] 36) = X at *
  clear hQ
  go_wp2_with fail
  refine KL.out.mono ?_
  rintro x w1 ⟨rfl, hb1⟩
  have S1 := Lib.hid (S0.out.below hb1)
  have F1 := Lib.hid (F0.out.trans (Dv.Fr3.of_below hb1))
  have c1 := Dv.keep_cell hb1 c0
  have KA := Lib.hid (fun W1 (hS : TwS w W1 D P L M n B T pages s) => lay_s hS (by omega) hn 1 (by omega) b hsz)
  rw [show ((1 : Nat) : Int) = 1 from rfl] at KA
  have ht1 := S1.out.t1
  clear S0 F0 c0 d1 d2 KL hb1
  have HE : Hid (storeM no b s = sq (layM 1 b) (sq (noteM (no + 1)) (settleM no b)) s) := rfl
  cases hA : (layM 1 b s).1 with
  | false =>
    have HO : Hid (storeM no b s = (false, (layM 1 b s).2)) := by rw [Hid, HE.out, sq_f hA]
    have KA2 := Lib.hid (fun W1 hS => (KA.out W1 hS).mono fun x w' hh => hh.f hA)
    clear KA HE hA hn1 hn2 hsz
    go_wp2
    go_quiet (fail)
    go_wp2_with fail
    refine (KA2.out _ (S1.out.below (below_drewN (Below.refl _ _) _))).mono ?_
    rintro x w2 ⟨rfl, hs2, hf2⟩
    have S2 := Lib.hid hs2
    have F2 := Lib.hid (F1.out.trans ((Dv.Fr3.of_below (below_drewN (Below.refl _ _) _)).trans hf2))
    clear hs2 hf2 KA2 S1 F1
    go_wp2
    go_ret
    exact ⟨by rw [HO.out]; rfl, by rw [HO.out]; exact S2.out.more (by omega), F2.out⟩
  | true =>
    have HE2 : Hid (storeM no b s = sq (noteM (no + 1)) (settleM no b) (layM 1 b s).2) := by rw [Hid, HE.out, sq_t hA]
    have KA2 := Lib.hid (fun W1 hS => (KA.out W1 hS).mono fun x w' hh => hh.t hA)
    clear KA HE hA hn1 hn2
    go_wp2
    go_quiet (fail)
    go_wp2_with fail
    refine (KA2.out _ (S1.out.below (below_drewN (Below.refl _ _) _))).mono ?_
    rintro x w2 ⟨rfl, hs2, hf2⟩
    have c2 := hf2.cell (show (w1.drewN _).cell? ⟨Q, 0, none⟩ = _ from c1) hN.1 hN.2.1 hN.2.2
    have S2 := Lib.hid hs2
    have F2 := Lib.hid (F1.out.trans ((Dv.Fr3.of_below (below_drewN (Below.refl _ _) _)).trans hf2))
    clear hs2 hf2 KA2 S1 F1 c1 ht1
    generalize (layM 1 b s).2 = s2 at *
    have KN := Lib.hid (note_s S2.out (by omega) hn (by omega) (no + 1) (by omega))
    rw [← e1] at KN
    cases hN2 : (noteM (no + 1) s2).1 with
    | false =>
      have HO : Hid (storeM no b s = (false, (noteM (no + 1) s2).2)) := by rw [Hid, HE2.out, sq_f hN2]
      have KN2 := Lib.hid (KN.out.mono fun x w' hh => hh.f hN2)
      clear KN HE2 hN2 hsz e1
      go_wp2_with fail
      refine KN2.out.mono ?_
      rintro x w3 ⟨rfl, hs3, hf3⟩
      have S3 := Lib.hid hs3
      have F3 := Lib.hid (F2.out.trans hf3)
      clear hs3 hf3 KN2 S2 F2
      go_wp2
      go_ret
      exact ⟨by rw [HO.out]; rfl, by rw [HO.out]; exact S3.out.more (by omega), F3.out⟩
    | true =>
      have HO : Hid (storeM no b s = settleM no b (noteM (no + 1) s2).2) := by rw [Hid, HE2.out, sq_t hN2]
      have KN2 := Lib.hid (KN.out.mono fun x w' hh => hh.t hN2)
      clear KN HE2 hN2 e1
      go_wp2_with fail
      refine KN2.out.mono ?_
      rintro x w3 ⟨rfl, hs3, hf3⟩
      have c3 := hf3.cell c2 hN.1 hN.2.1 hN.2.2
      have S3 := Lib.hid hs3
      have F3 := Lib.hid (F2.out.trans hf3)
      clear hs3 hf3 KN2 S2 F2 c2
      generalize (noteM (no + 1) s2).2 = s3 at *
      have KT := Lib.hid (settle_s S3.out (by omega) hn no hpl b hsz)
      clear hsz
      go_wp2_with fail
      refine KT.out.mono ?_
      rintro x w4 ⟨rfl, hs4, hf4⟩
      have S4 := Lib.hid hs4
      have F4 := Lib.hid (F3.out.trans hf4)
      clear hs4 hf4 KT S3 F3
      go_wp2
      go_ret
      exact ⟨by rw [HO.out]; rfl, by rw [HO.out]; exact S4.out.more (by omega), F4.out⟩
set_option maxRecDepth 100000 in
set_option maxHeartbeats 4000000 in
theorem store_bad (T : Nat) (no g : Int) (a : Option Addr) (l : List (ByteArray × ByteArray)) (c : Nat) (ha : ClsAt W a l) (hl : l.length ≤ maxLen) (ho : pgOk no g l = false) :
    Calls Tryz.prog 78 #[.pointer (some ⟨T, 0, none⟩), .agg #[.int .i64 no, .int .i64 g, .slice a l.length c]] W fun x w' => x = .returned (.int .i64 1) ∧ Below W.heap.size W w' := by
  have hba := (Below.refl W.heap.size W).alloc (Nat.le_refl _) (.cells #[.int .i64 no, .int .i64 g, .slice a l.length c] 36)
  have KL := Lib.hid (pgLaid_bad no g a l c _ hl (ha.below hba) ho)
  have c0 : (W.alloc (.cells #[.int .i64 no, .int .i64 g, .slice a l.length c] 36)).cell? ⟨W.heap.size, 0, none⟩ = some (.int .i64 no) := Dv.new_cell rfl rfl
  have d1 : (W.alloc (.cells #[.int .i64 no, .int .i64 g, .slice a l.length c] 36)).cell? ⟨W.heap.size, 1, none⟩ = some (.int .i64 g) := Dv.new_cell rfl rfl
  have d2 : (W.alloc (.cells #[.int .i64 no, .int .i64 g, .slice a l.length c] 36)).cell? ⟨W.heap.size, 2, none⟩ = some (.slice a l.length c) := Dv.new_cell rfl rfl
  clear ha ho
  go_enter Tryz.func78, Tryz.ntmps78
  go_upto_region 1 with fail
  generalize W.alloc (.cells #[.int .i64 no, .int .i64 g, .slice a l.length c] 36) = X at *
  go_wp2_with fail
  refine KL.out.mono ?_
  rintro x w1 ⟨rfl, hb1⟩
  have hb2 := hba.trans (hb1.mono hba.size)
  clear hba hb1 KL c0 d1 d2
  go_wp2
  go_quiet (fail)
  go_wp2
  go_ret
  exact ⟨rfl, below_drewN hb2 _⟩
set_option maxRecDepth 100000 in
set_option maxHeartbeats 4000000 in
theorem store_far (h : TwS w W D P L M n B T pages s) (no g : Int) (a : Option Addr) (l : List (ByteArray × ByteArray)) (c : Nat) (ha : ClsAt W a l) (hfar : (pages : Int) ≤ no) (ho : pgOk no g l = true) :
    Calls Tryz.prog 78 #[.pointer (some ⟨T, 0, none⟩), .agg #[.int .i64 no, .int .i64 g, .slice a l.length c]] W fun x w' => x = .returned (.int .i64 1) ∧ Below W.heap.size W w' := by
  have hba := (Below.refl W.heap.size W).alloc (Nat.le_refl _) (.cells #[.int .i64 no, .int .i64 g, .slice a l.length c] 36)
  have KL := Lib.hid (pgLaid_any no g a l c _ (ha.below hba) ((h.below hba).tabW) ho)
  have ht := (h.below hba).t1
  have c0 : (W.alloc (.cells #[.int .i64 no, .int .i64 g, .slice a l.length c] 36)).cell? ⟨W.heap.size, 0, none⟩ = some (.int .i64 no) := Dv.new_cell rfl rfl
  have d1 : (W.alloc (.cells #[.int .i64 no, .int .i64 g, .slice a l.length c] 36)).cell? ⟨W.heap.size, 1, none⟩ = some (.int .i64 g) := Dv.new_cell rfl rfl
  have d2 : (W.alloc (.cells #[.int .i64 no, .int .i64 g, .slice a l.length c] 36)).cell? ⟨W.heap.size, 2, none⟩ = some (.slice a l.length c) := Dv.new_cell rfl rfl
  obtain ⟨hn1, hn2, hn3⟩ := ba_neL2 (pgBytes_size ho)
  have hge : decide ((pages : Int) ≤ no) = true := decide_eq_true hfar
  generalize pgBytes no g l = b at *
  clear h ha ho hn1 hn2
  go_enter Tryz.func78, Tryz.ntmps78
  go_upto_region 1 with fail
  generalize W.alloc (.cells #[.int .i64 no, .int .i64 g, .slice a l.length c] 36) = X at *
  go_wp2_with fail
  refine KL.out.mono ?_
  rintro x w1 ⟨rfl, hb1⟩
  have c1 := Dv.keep_cell hb1 c0
  have ht1 := Dv.keep_cell hb1 ht
  have hb2 := hba.trans (hb1.mono hba.size)
  clear hba hb1 KL c0 d1 d2 ht
  go_wp2
  go_quiet (fail)
  go_wp2
  go_ret
  exact ⟨rfl, below_drewN hb2 _⟩
end
end Go.Proofs.YtkemhkmabbladaaGreatDoor
