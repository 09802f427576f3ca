/-
  THE CONTRACTS OF what turns a clock: set, meet, raise, Tick.
-/
import Derived.Test.YtcdkloohdafbpaaCkHas
import Derived.Deep.RegionWith
namespace Go.Proofs.Ytcdkloohdafbpaa
open Go.RowKit

theorem set_any {W : World} {M k : Nat} {f : Int → Int} (h : TimesAt W M k f) (p z : Int) (hp : (Lit.int .i64 p).wf = true) (hz : Okay z) (hk : k < maxLen) :
    Calls Try.prog 27 #[.map (some M), .int .i64 p, .int .i64 z] W fun e w' => e = .returned (.tuple #[]) ∧ TimesAt w' M (k + 1) (updI f p z) ∧ W.grownBy w' (some M) := by
  by_cases h0 : z = 0
  · subst h0
    obtain ⟨W', hrun, hm, hg⟩ := h.drop p hp 0
    have HM := Lib.hid (hm.mono (Nat.le_succ k)); clear hm
    have HG := Lib.hid hg; clear hg h
    go_enter Try.func27, Try.ntmps27
    go_wp2
    refine bodyPost_ret (results_none rfl _ _ _) rfl ?_
    exact ⟨rfl, HM.out, HG.out⟩
  · obtain ⟨W', hrun, hm, hg⟩ := h.store p hp z hz.wf hk
    have HM := Lib.hid hm; clear hm
    have HG := Lib.hid hg; clear hg h
    go_enter Try.func27, Try.ntmps27
    go_wp2
    go_end0
    exact ⟨rfl, HM.out, HG.out⟩
section
variable {W : World} {C S P T n k : Nat} {ss : List Int} {fp ft : Int → Int} {top : Int}
theorem most1h (x y : Int) (W : World) : ∀ W', Below W.heap.size W W' → Calls Try.prog 28 #[.int .i64 x, .slice (some ⟨W'.heap.size, 0, none⟩) 1 1] (W'.alloc (.cells #[.int .i64 y] 3)) fun e w' => e = .returned (.int .i64 (max x y)) ∧ Below W.heap.size W w' := fun W' hW => most1' W.heap.size W x y 3 W' hW hW.size
theorem max_ok {x y : Int} (hx : Okay x) (hy : Okay y) : Okay (max x y) := by unfold Okay at *; omega
theorem meet_any (h : ClockAt W C S P T n k ss fp ft top) (z : Int) (hz : Okay z) :
    Calls Try.prog 29 #[.pointer (some ⟨C, 0, none⟩), .int .i64 z] W fun e w' => e = .returned (.tuple #[]) ∧ ClockAt w' C S P T n k ss fp ft (max top z) ∧ Fr C S P T W w' := by
  have KM := Lib.hid (most1h top z W)
  have h0 := h.c0
  have HC : Hid (∀ W', Below W.heap.size W W' → W'.cell? ⟨C, 0, none⟩ = some (.int .i64 top) ∧ W'.frozen? ⟨C, 0, none⟩ = false ∧ ClockAt (W'.setCell ⟨C, 0, none⟩ (.int .i64 (max top z))) C S P T n k ss fp ft (max top z) ∧ Fr C S P T W (W'.setCell ⟨C, 0, none⟩ (.int .i64 (max top z)))) := fun W' hW =>
    ⟨(h.below hW).c0, (h.below hW).cf 0, (h.below hW).setTop _ (max_ok h.ot hz), (Fr.of_below hW).trans (Fr.of_grown (setCell_grown _ _ _ _) (by simp))⟩
  clear h
  generalize max top z = m at KM HC ⊢
  go_enter Try.func29, Try.ntmps29
  go_wp2_with fail
  refine (KM.out _ (Below.refl _ _)).mono ?_
  rintro e w1 ⟨rfl, hb⟩
  obtain ⟨h1, h2, h3, h4⟩ := HC.out _ hb
  have h3 := Lib.hid h3
  have h4 := Lib.hid h4
  go_wp2
  go_end0
  exact ⟨rfl, h3.out, h4.out⟩
set_option maxHeartbeats 1000000 in
theorem tick_no (h : ClockAt W C S P T n k ss fp ft top) (s p t : Int) (hp : (Lit.int .i64 p).wf = true) (ht : (Lit.int .i64 t).wf = true) (hE : peekE n ss fp ft s p t ≠ 0) :
    Calls Try.prog 18 #[.pointer (some ⟨C, 0, none⟩), .int .i64 s, .int .i64 p, .int .i64 t] W fun e w' => e = .returned (.tuple #[.int .i64 0, .int .i64 (peekE n ss fp ft s p t)]) ∧ Below W.heap.size W w' := by
  have KP := Lib.hid (peek_any h s p t hp ht)
  generalize peekN n ss fp ft s p t = rN at KP
  generalize peekE n ss fp ft s p t = rE at KP hE ⊢
  clear h
  go_enter Try.func18, Try.ntmps18
  go_wp2_with fail
  refine KP.out.mono ?_
  rintro e w1 ⟨rfl, hb⟩
  go_wp2
  go_ret2
  exact ⟨rfl, hb⟩
def updP (f : Int → Int) (p z : Int) : Int → Int := if 0 ≤ p then updI f p z else f
theorem updP_ok {f : Int → Int} (h : ∀ i, Okay (f i)) {p z : Int} (hz : Okay z) : ∀ i, Okay (updP f p z i) := by
  unfold updP; split
  · exact updI_ok h hz
  · exact h
/-- times.set of pages, of transactions. -/
theorem setPages_any (h : ClockAt W C S P T n k ss fp ft top) (p z : Int) (hp : (Lit.int .i64 p).wf = true) (hz : Okay z) (hk : k < maxLen) :
    Calls Try.prog 27 #[.map (some P), .int .i64 p, .int .i64 z] W fun e w' => e = .returned (.tuple #[]) ∧ ClockAt w' C S P T n (k + 1) ss (updI fp p z) ft top ∧ Fr C S P T W w' :=
  (set_any h.pm p z hp hz hk).mono fun _ _ ⟨a, b, c⟩ => ⟨a, h.setPages (Nat.le_succ _) c b (updI_ok h.op hz), Fr.of_grown c (by simp)⟩
theorem setTxns_any (h : ClockAt W C S P T n k ss fp ft top) (p z : Int) (hp : (Lit.int .i64 p).wf = true) (hz : Okay z) (hk : k < maxLen) :
    Calls Try.prog 27 #[.map (some T), .int .i64 p, .int .i64 z] W fun e w' => e = .returned (.tuple #[]) ∧ ClockAt w' C S P T n (k + 1) ss fp (updI ft p z) top ∧ Fr C S P T W w' :=
  (set_any h.tm p z hp hz hk).mono fun _ _ ⟨a, b, c⟩ => ⟨a, h.setTxns (Nat.le_succ _) c b (updI_ok h.oy hz), Fr.of_grown c (by simp)⟩
set_option maxHeartbeats 2000000 in
theorem tick_yes (h : ClockAt W C S P T n k ss fp ft top) (s p t : Int) (hp : (Lit.int .i64 p).wf = true) (ht : (Lit.int .i64 t).wf = true) (hs : hasB n s = true) (z : Int) (hzv : nextV n ss fp ft s p t = z) (hz : Okay z) (hk : k + 2 < maxLen) :
    Calls Try.prog 18 #[.pointer (some ⟨C, 0, none⟩), .int .i64 s, .int .i64 p, .int .i64 t] W fun e w' => e = .returned (.tuple #[.int .i64 z, .int .i64 0]) ∧ ClockAt w' C S P T n (k + 2) (ss.set s.toNat z) (updP fp p z) (updP ft t z) (max top z) ∧ Fr C S P T W w' := by
  have KP := Lib.hid (peek_any h s p t hp ht)
  have hN : peekN n ss fp ft s p t = z := by unfold peekN; rw [hs, hzv, if_pos rfl, if_pos hz.2]
  have hE : peekE n ss fp ft s p t = 0 := by unfold peekE; rw [hs, hzv, if_pos rfl, if_pos hz.2]
  rw [hN, hE] at KP
  clear hN hE hzv
  obtain ⟨s0, s1⟩ := hasB_iff.1 hs
  obtain ⟨j, rfl⟩ := Int.eq_ofNat_of_zero_le s0
  clear hs
  obtain ⟨n0, n8⟩ := h.n1
  have HC : Hid (∀ W', Below W.heap.size W W' → W'.cell? ⟨C, 1, none⟩ = some (.slice (some ⟨S, 0, none⟩) n n) ∧ W'.cell? ⟨S, j, none⟩ = some (.int .i64 (ss.getD j 0)) ∧ W'.frozen? ⟨S, j, none⟩ = false ∧ ClockAt (W'.setCell ⟨S, j, none⟩ (.int .i64 z)) C S P T n k (ss.set (j : Int).toNat z) fp ft top ∧ Fr C S P T W (W'.setCell ⟨S, j, none⟩ (.int .i64 z))) := fun W' hW =>
    ⟨(h.below hW).c1, (h.below hW).sc j (by omega), (h.below hW).sf j, by rw [Int.toNat_natCast]; exact (h.below hW).setStream j (by omega) z hz, (Fr.of_below hW).trans (Fr.of_grown (setCell_grown _ _ _ _) (by simp))⟩
  clear h
  generalize ss.set (j : Int).toNat z = ss' at HC ⊢
  generalize ss.getD j 0 = old at HC
  go_enter Try.func18, Try.ntmps18
  go_wp2_with fail
  refine KP.out.mono ?_
  rintro e w1 ⟨rfl, hb⟩
  obtain ⟨h1, h2, h3, h4, h5⟩ := HC.out _ hb
  have h4 := Lib.hid h4
  have h5 := Lib.hid h5
  by_cases hp0 : 0 ≤ p
  · have HP : Hid (updP fp p z = updI fp p z) := by rw [Hid, updP, if_pos hp0]
    have c2 := h4.out.c2
    go_wp2_with fail
    refine (setPages_any h4.out p z hp hz (by omega)).mono ?_
    rintro e w2 ⟨rfl, h6, h7⟩
    have cl := Lib.hid h6; have fr := Lib.hid (h5.out.trans h7); clear h6 h7 c2 h4 h5
    by_cases ht0 : 0 ≤ t
    · have HT : Hid (updP ft t z = updI ft t z) := by rw [Hid, updP, if_pos ht0]
      have c3 := cl.out.c3
      go_wp2_with fail
      refine (setTxns_any cl.out t z ht hz (by omega)).mono ?_
      rintro e w3 ⟨rfl, h6, h7⟩
      have cl1 := Lib.hid h6; have fr1 := Lib.hid (fr.out.trans h7); clear h6 h7 c3 cl fr
      have cl := cl1; have fr := fr1; clear cl1 fr1
      go_wp2_with fail
      refine (meet_any cl.out z hz).mono ?_
      rintro e w4 ⟨rfl, h6, h7⟩
      have cl' := Lib.hid h6; have fr' := Lib.hid (fr.out.trans h7); clear h6 h7 cl fr
      go_wp2
      go_ret2
      exact ⟨rfl, by rw [HP.out, HT.out]; exact cl'.out.mono (by omega), fr'.out⟩
    · have HT : Hid (updP ft t z = ft) := by rw [Hid, updP, if_neg ht0]
      go_wp2_with fail
      refine (meet_any cl.out z hz).mono ?_
      rintro e w4 ⟨rfl, h6, h7⟩
      have cl' := Lib.hid h6; have fr' := Lib.hid (fr.out.trans h7); clear h6 h7 cl fr
      go_wp2
      go_ret2
      exact ⟨rfl, by rw [HP.out, HT.out]; exact cl'.out.mono (by omega), fr'.out⟩
  · have HP : Hid (updP fp p z = fp) := by rw [Hid, updP, if_neg hp0]
    have cl := h4; have fr := h5; clear h4 h5
    by_cases ht0 : 0 ≤ t
    · have HT : Hid (updP ft t z = updI ft t z) := by rw [Hid, updP, if_pos ht0]
      have c3 := cl.out.c3
      go_wp2_with fail
      refine (setTxns_any cl.out t z ht hz (by omega)).mono ?_
      rintro e w3 ⟨rfl, h6, h7⟩
      have cl1 := Lib.hid h6; have fr1 := Lib.hid (fr.out.trans h7); clear h6 h7 c3 cl fr
      have cl := cl1; have fr := fr1; clear cl1 fr1
      go_wp2_with fail
      refine (meet_any cl.out z hz).mono ?_
      rintro e w4 ⟨rfl, h6, h7⟩
      have cl' := Lib.hid h6; have fr' := Lib.hid (fr.out.trans h7); clear h6 h7 cl fr
      go_wp2
      go_ret2
      exact ⟨rfl, by rw [HP.out, HT.out]; exact cl'.out.mono (by omega), fr'.out⟩
    · have HT : Hid (updP ft t z = ft) := by rw [Hid, updP, if_neg ht0]
      go_wp2_with fail
      refine (meet_any cl.out z hz).mono ?_
      rintro e w4 ⟨rfl, h6, h7⟩
      have cl' := Lib.hid h6; have fr' := Lib.hid (fr.out.trans h7); clear h6 h7 cl fr
      go_wp2
      go_ret2
      exact ⟨rfl, by rw [HP.out, HT.out]; exact cl'.out.mono (by omega), fr'.out⟩
end
end Go.Proofs.Ytcdkloohdafbpaa
