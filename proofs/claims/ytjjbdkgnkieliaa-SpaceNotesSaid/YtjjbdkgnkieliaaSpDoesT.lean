/-
  does OF LAW 16, a Take: its walk.
-/
import Derived.Test.YtjjbdkgnkieliaaSpDoesB
namespace Go.Proofs.Ytjjbdkgnkieliaa
open Go.RowKit
set_option maxRecDepth 100000 in
set_option maxHeartbeats 8000000 in
theorem does_take {W w : World} {B S T A n : Nat} {v : Value} {L : List Nd} {o : Int → Option Nat} {b : Book} (h : NtS W w B S T A n v L o b) (t : Int) (ma : Option Addr) (ml : List Int) (mc : Nat) (hx : NAOk W ⟨0, t, ma, ml, mc⟩) (hn : n ≤ 90000) (hL : L.length ≤ 800) (h10 : ml.length ≤ 10) :
    Calls Try.prog 10 #[.pointer (some ⟨S, 0, none⟩), v, .agg (NAct.cells ⟨0, t, ma, ml, mc⟩)] w fun e w' => ∃ v' o', e = .returned v' ∧ Hid (NtS W w' B S T A (n + 30) v' (upL t up L ml) o' (takeB t b ml)) := by
  have hwt := hx.wt
  have HZ := Lib.hid hx.z
  have HIA := Lib.hid hx.a
  dsimp only at hwt HZ HIA
  clear hx
  obtain ⟨X, hX⟩ : ∃ X, X = w.alloc (.cells (NAct.cells ⟨0, t, ma, ml, mc⟩) 31) := ⟨_, rfl⟩
  have hbX : Below w.heap.size w X := by rw [hX]; exact (Below.refl _ _).alloc (Nat.le_refl _) _
  have pbX : X.heap[w.heap.size]? = some (.cells (NAct.cells ⟨0, t, ma, ml, mc⟩) 31 (0, 0)) := by
    rw [hX]
    show (w.heap.push _)[w.heap.size]? = _
    simp
  have s1 := h.below hbX
  have hIX : IntsAt X ma ml := (HIA.out.below h.bel).below hbX
  have hAp : ml = [] ∨ Apart ma T A o X := by
    rcases hIX with e | ⟨bb, off, rfl, hc⟩
    · exact .inl e
    · by_cases e : ml = []
      · exact .inl e
      · right
        intro y hy
        injection hy with hy
        subst hy
        exact s1.sp.apart (x := ⟨bb, off + 0, none⟩) (hc 0 (List.length_pos_iff.2 e))
  have KT := Lib.hid (take_any s1.sp t hwt ma ml mc hIX HZ.out hAp (by omega))
  have ap := s1.sp.not_cells pbX
  obtain ⟨P, hP⟩ : ∃ P, P = w.heap.size := ⟨_, rfl⟩
  have lX : w.heap.size < X.heap.size := (Array.getElem?_eq_some_iff.1 pbX).1
  rw [← hP] at pbX ap lX
  have S1 := Lib.hid s1
  have PB := Lib.hid pbX
  have AP := Lib.hid ap
  have p0 : X.cell? ⟨P, 0, none⟩ = some (.int .i64 0) := by simp [World.cell?, pbX, NAct.cells]
  have p1 : X.cell? ⟨P, 1, none⟩ = some (.int .i64 t) := by simp [World.cell?, pbX, NAct.cells]
  have p2 : X.cell? ⟨P, 2, none⟩ = some (.slice ma ml.length mc) := by simp [World.cell?, pbX, NAct.cells]
  clear h hbX s1 hIX hAp ap pbX
  simp only [NAct.cells] at hX ⊢
  obtain ⟨q, hq⟩ : ∃ q, q = ml.length := ⟨_, rfl⟩
  rw [← hq] at p2 KT hX h10 ⊢
  have HQ := Lib.hid hq
  clear hq
  go_enter Try.func10, Try.ntmps10
  go_upto_region 1 with fail
  rw [← hX, ← hP]
  clear hX hP
  go_wp2_with fail
  refine KT.out.mono ?_
  rintro z w3 ⟨rfl, hr⟩
  obtain ⟨o3, s3, f3⟩ := hr.out
  have row3 := S1.out.rowFr f3
  have l3 := S1.out.left f3
  have pb3 : w3.heap[P]? = some (.cells (NAct.cells ⟨0, t, ma, ml, mc⟩) 31 (0, 0)) := (f3.block P lX AP.out.1 AP.out.2.1 AP.out.2.2).trans PB.out
  have hOK := S1.out.ok
  have D0 : Hid (DoS W w3 B S T A (n + 3 * q) o3 (takeB t b ml) P ⟨0, t, ma, ml, mc⟩ v (upL t up L (ml.take 0)) ((n : Int) + (0 : Nat))) :=
    { sp := s3, row := row3, pb := pb3, bel := l3.1, size := Nat.le_trans S1.out.size f3.size, wB := S1.out.wB, sB := S1.out.sB, bo := l3.2, len := by show L.length ≤ 900; omega,
      bd := by
        have := Bd.start hOK (fun p => (S1.out.sp.ab p).2)
        rw [show (n : Int) + ((0 : Nat) : Int) = (n : Int) by simp]
        exact this }
  have HOK := Lib.hid hOK
  have HS1 := Lib.hid (⟨S1.out.bT, S1.out.bA⟩ : W.heap.size ≤ T ∧ W.heap.size ≤ A)
  clear hr s3 f3 row3 l3 pb3 KT PB AP S1 lX p0 p1 p2 hOK
  have pp := D0.out.p0
  dsimp only at pp
  go_wp2
  clear pp
  go_loopw [1, 9] (fun vv i w' => ∃ j : Nat, j ≤ q ∧ i = .int .i64 j ∧ Hid (DoS W w' B S T A (n + 3 * q) o3 (takeB t b ml) P ⟨0, t, ma, ml, mc⟩ vv (upL t up L (ml.take j)) ((n : Int) + j))) (fun _ i _ => q - (intOf i).toNat)
  case atStart => exact ⟨0, Nat.zero_le _, rfl, D0⟩
  case round =>
    obtain ⟨j, hj, rfl, hd⟩ := hrel
    rename World => wr
    clear D0
    have p2 := hd.out.p2
    dsimp only at p2
    rw [← HQ.out] at p2
    by_cases hlt : j < q
    · have hjl : j < ml.length := by have := HQ.out; omega
      have p0 := hd.out.p0
      have p1 := hd.out.p1
      dsimp only at p0 p1
      obtain ⟨bb, off, rfl, hc⟩ := (HIA.out.below hd.out.bel).cell hjl
      have hstep : upL t up L (ml.take (j + 1)) = upsert t (ml.getD j 0) up (upL t up L (ml.take j)) := by rw [take_one ml j hjl]; unfold upL; rw [List.foldl_append]; rfl
      obtain ⟨M, hM⟩ : ∃ M, M = upL t up L (ml.take j) := ⟨_, rfl⟩
      have hML : M.length ≤ L.length + j := by
        rw [hM]
        have := len_upL t up (ml.take j) L
        rw [List.length_take] at this; omega
      rw [← hM] at hd hstep
      obtain ⟨p, hp⟩ : ∃ p, p = ml.getD j 0 := ⟨_, rfl⟩
      rw [← hp] at hc hstep
      have HST := Lib.hid hstep
      have hlt' : (j : Int) < (q : Int) := by omega
      have hbd : Bd (upL t up L (ml.take (j + 1))) ((n : Int) + (j + 1 : Nat)) := by
        rw [hstep]
        have := hd.out.bd.step (by omega) t p up_ok
        rw [show (n : Int) + ((j + 1 : Nat) : Int) = (n : Int) + j + 1 by simp; omega]
        exact this
      have HBD := Lib.hid hbd
      have KF := Lib.hid (fun m => find_val (w := wr.drewN m) ((hd.out.below (below_drewN (Below.refl _ _) m)).row) (by omega) t p)
      obtain ⟨kf, hkf⟩ : ∃ kf, kf = findK t p M := ⟨_, rfl⟩
      have HFK : Hid (FindP t p M kf) := by rw [hkf]; exact findK_is t p M
      rw [← hkf] at KF
      have P0 := Lib.hid p0
      have P1 := Lib.hid p1
      have P2 := Lib.hid p2
      have PC := Lib.hid hc
      clear hM hp hstep hbd hkf p0
      go_upto_region 16 with fail
      go_quiet ((go_at_call 20; exact Calls.quiet_of_same (KF.out _)))
      have hD : Below wr.heap.size wr (wr.drewN nq) := below_drewN (Below.refl _ _) nq
      have hd2 := Lib.hid (hd.out.below hD)
      have p0 := keepc3 hD P0.out
      have p1 := keepc3 hD P1.out
      have p2 := keepc3 hD P2.out
      have hc := keepc3 hD PC.out
      clear hd hD P0 P1 P2 PC KF
      generalize wr.drewN nq = wd at *
      rcases HFK.out with ⟨rfl, hno⟩ | ⟨kj, rfl, hkl, hkk, hah⟩
      · have HNO := Lib.hid hno
        clear hno HFK
        go_upto_region 18 with fail
        have hyz : Below wd.heap.size wd (wd.alloc (.cells #[.int .i64 t, .int .i64 p, .int .i64 0] 33)).drew := ((Below.refl _ _).alloc (Nat.le_refl _) _).drew
        have T7 := Lib.hid (hd2.out.below hyz)
        have MZ : Hid (∀ j u, ([.int .i64 t, .int .i64 p, .int .i64 0] : List Value)[j]? = some u → (wd.alloc (.cells #[.int .i64 t, .int .i64 p, .int .i64 0] 33)).drew.cell? ((⟨wd.heap.size, 0, none⟩ : Addr).add j) = some u) := fun j u hj => by
          match j, hj with
          | 0, hj => exact (new_cell rfl rfl).trans hj
          | 1, hj => exact (new_cell rfl rfl).trans hj
          | 2, hj => exact (new_cell rfl rfl).trans hj
        clear hyz
        go_region_law ((refine step_append_nd (by rfl) _ _ (by rfl) B u1 M ⟨wd.heap.size, 0, none⟩ (t, p, 0) 1 (by rfl) T7.out.row (by rfl) MZ.out (by omega) T7.out.size ?_; intro v9 w9 r9 hg9; obtain ⟨g9, c9, rfl, _, _⟩ := r9.there (by rw [List.length_append]; exact Nat.succ_pos _); have T9 := Lib.hid (T7.out.rows r9 hg9 (M' := M ++ [(t, p, 0)]) (c' := (n : Int) + (j + 1 : Nat)) (by rw [List.length_append]; show M.length + 1 ≤ 900; omega) (by rw [← upsert_new (f := fun _ => 0) HNO.out]; have := T7.out.bd.step (by omega) t p (f := fun _ => 0) (fun n hn => ⟨Int.le_refl _, by omega⟩); rw [show (n : Int) + ((j + 1 : Nat) : Int) = (n : Int) + j + 1 by simp; omega]; exact this)); have R9 := Lib.hid r9; clear r9 hg9 T7 MZ))
        all_goals
          have hk0 := T9.out.p0
          dsimp only at hk0
          have ml9 : (M ++ [((t, p, 0) : Nd)]).length = M.length + 1 := by rw [List.length_append]; rfl
          rw [ml9] at R9 T9
          obtain ⟨m, hm⟩ : ∃ m, m = M.length := ⟨_, rfl⟩
          have cell9 := (R9.out.cell M.length (by rw [ml9]; exact Nat.lt_succ_self _)).2.2
          rw [show ((M ++ [((t, p, 0) : Nd)]).getD M.length noNd) = (t, p, 0) by simp [List.getD_eq_getElem?_getD]] at cell9
          dsimp only at cell9
          rw [← hm] at R9 T9 cell9 ⊢
          have hmB : m ≤ 900 := by omega
          have HM := Lib.hid hm
          clear ml9 hm
          have w9b : IntKind.i64.wrap (m : Int) = (m : Int) := IntWalk.i64_in _ (by omega)
          have w8 : IntKind.i64.wrap (((m + 1 : Nat) : Int) - 1) = (m : Int) := by rw [IntWalk.i64_in _ (by omega)]; omega
          have m1 : (m : Int) < ((m + 1 : Nat) : Int) := by omega
          have fz := (hfz R9.out) (m * 3 + 2)
          have set9 : NdRow (w9.setCell ⟨g9, m * 3 + 2, none⟩ (.int .i64 1)) B (.slice (some ⟨g9, 0, none⟩) (m + 1) c9) ((M ++ [((t, p, 0) : Nd)]).set m (t, p, 1)) := by
            have h1 := NdRow.set (k := m) (by rw [show (M ++ [((t, p, 0) : Nd)]).length = m + 1 by rw [List.length_append, HM.out]; rfl]; exact R9.out) (by rw [List.length_append, HM.out]; exact Nat.lt_succ_self _) 1
            rw [show (M ++ [((t, p, 0) : Nd)]).length = m + 1 by rw [List.length_append, HM.out]; rfl, show ((M ++ [((t, p, 0) : Nd)]).getD m noNd) = (t, p, 0) by rw [HM.out]; simp [List.getD_eq_getElem?_getD]] at h1
            exact h1
          have hup : (M ++ [((t, p, 0) : Nd)]).set m (t, p, 1) = upL t up L (ml.take (j + 1)) := by
            rw [HST.out, upsert_new HNO.out, HM.out]
            simp [up]
          rw [hup] at set9
          have hN := Lib.hid (T9.out.rows set9 (setCell_grown _ _ _ _) (by rw [HST.out]; have := len_upsert t p up M; omega) HBD.out)
          clear set9 hup T9 R9 hd2
          go_wp2
          go_roundw
          case rel => exact ⟨j + 1, by omega, by go_num, hN⟩
          case measure => simp [intOf]; omega
      · have hnk : ¬ ((kj : Int) < 0) := by omega
        have hrow := hd2.out.row
        obtain ⟨g, c, hv, hcc, _⟩ := hrow.there (by omega)
        obtain ⟨y0, y1, y2⟩ := hrow.cell' hv kj hkl
        obtain ⟨m, hm⟩ : ∃ m, m = M.length := ⟨_, rfl⟩
        have hupA := upsert_at (f := up) hkl hkk hah
        obtain ⟨z, hz⟩ : ∃ z, z = (M.getD kj noNd).2.2 := ⟨_, rfl⟩
        have hzb : 0 ≤ z ∧ z ≤ (n : Int) + j := by rw [hz]; exact hd2.out.bd _ (nd_mem hkl)
        have fz := hfz (by rw [← hv]; exact hrow) (kj * 3 + 2)
        rw [← hz] at y2 hupA
        have hrow' : NdRow wd B (.slice (some ⟨g, 0, none⟩) M.length c) M := by rw [← hv]; exact hrow
        have hset : ∀ r, r = up z → NdRow (wd.setCell ⟨g, kj * 3 + 2, none⟩ (.int .i64 r)) B (.slice (some ⟨g, 0, none⟩) M.length c) (upL t up L (ml.take (j + 1))) := fun r hr => by
          have h1 := hrow'.set hkl r
          rw [HST.out, hupA.1, ← hr]
          rw [hkk.1, hkk.2] at h1; exact h1
        subst hv
        have hN : ∀ r, r = up z → DoS W (wd.setCell ⟨g, kj * 3 + 2, none⟩ (.int .i64 r)) B S T A (n + 3 * q) o3 (takeB t b ml) P ⟨0, t, some ⟨bb, off, none⟩, ml, mc⟩ (.slice (some ⟨g, 0, none⟩) M.length c) (upL t up L (ml.take (j + 1))) ((n : Int) + (j + 1 : Nat)) := fun r hr =>
          hd2.out.rows (hset r hr) (setCell_grown _ _ _ _) (by rw [HST.out]; have := len_upsert t p up M; omega) HBD.out
        have hS : up z = z → DoS W wd B S T A (n + 3 * q) o3 (takeB t b ml) P ⟨0, t, some ⟨bb, off, none⟩, ml, mc⟩ (.slice (some ⟨g, 0, none⟩) M.length c) (upL t up L (ml.take (j + 1))) ((n : Int) + (j + 1 : Nat)) := fun hr => by
          have e : upL t up L (ml.take (j + 1)) = M := by
            rw [HST.out, hupA.1, hr, hz]
            have hk2 : (t, p, (M.getD kj noNd).2.2) = M.getD kj noNd := by rw [← hkk.1, ← hkk.2]
            rw [hk2, List.getD_eq_getElem?_getD, List.getElem?_eq_getElem hkl]
            exact List.set_getElem_self hkl
          rw [e]
          have hb := HBD.out
          rw [e] at hb
          exact { hd2.out with bd := hb }
        rw [← hm] at hN hS hcc ⊢
        have HN := Lib.hid hN
        have HS := Lib.hid hS
        have hkm : (kj : Int) < (m : Int) := by omega
        clear hN hS hset hupA hkk hah hrow hrow' hm hz y0 y1 HFK hd2
        have w8 : IntKind.i64.wrap (z + 1) = z + 1 := IntWalk.i64_in _ (by omega)
        have hF := Lib.hid (HN.out (z + 1) rfl)
        clear HN HS
        go_wp2
        go_roundw
        case rel => exact ⟨j + 1, by omega, by go_num, hF⟩
        case measure => simp [intOf]; omega
    · have e : j = ml.length := by have := HQ.out; omega
      have hd1 := hd.out
      rw [e, List.take_length] at hd1
      have hF : Hid (NtS W wr B S T A (n + 30) u1 (upL t up L ml) o3 (takeB t b ml)) :=
        { sp := hd1.sp.mono (by omega), ok := NotOk.take ml HOK.out, row := hd1.row, bel := hd1.bel, size := hd1.size, sB := hd1.sB, wB := hd1.wB, bT := HS1.out.1, bA := HS1.out.2, bo := hd1.bo }
      clear hd hd1
      go_wp2
      go_ret
      exact ⟨_, _, rfl, hF⟩
end Go.Proofs.Ytjjbdkgnkieliaa
