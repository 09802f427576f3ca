/-
  PointKeeps: the walk.
-/
import Derived.Test.YtpoagfldekppkaaDoorPtArgs
import Derived.Test.YtpoagfldekppkaaDoorPtAwake
import Derived.Deep.RegionWith
import Derived.StillTailTactics
namespace Go.Proofs.YtpoagfldekppkaaDoor
open Go.RowKit
def smB (n : Int) : Prop := 0 ≤ n ∧ n ≤ 4611686018427387903
theorem small_yes {n : Int} (h : smB n) (w : World) : Calls Tryd.prog 13 #[.int .i64 n] w fun e w' => e = .returned (.bool true) ∧ w' = w := by
  obtain ⟨h1, h2⟩ := h
  go_enter Tryd.func13, Tryd.ntmps13
  go_wp2
  go_ret
  exact ⟨rfl, rfl⟩
theorem small_not {n : Int} (h : ¬ smB n) (w : World) : Calls Tryd.prog 13 #[.int .i64 n] w fun e w' => e = .returned (.bool false) ∧ w' = w := by
  by_cases h1 : 0 ≤ n
  · have h2 : ¬ n ≤ 4611686018427387903 := fun h2 => h ⟨h1, h2⟩
    clear h
    go_enter Tryd.func13, Tryd.ntmps13
    go_wp2
    go_ret
    exact ⟨rfl, rfl⟩
  · clear h
    go_enter Tryd.func13, Tryd.ntmps13
    go_wp2
    go_ret
    exact ⟨rfl, rfl⟩
/-- A master, its device, and the law's own point. -/
structure Pk (w W : World) (A D P L M N : Nat) (lo nx sq : Int) (b : Nat) : Prop where
  s : Pt w W A D P L M 3 false 0 b lo nx sq
  n0 : W.cell? ⟨N, 0, none⟩ = some (.int .i64 lo)
  n1 : W.cell? ⟨N, 1, none⟩ = some (.int .i64 nx)
  nf : ∀ i, W.frozen? ⟨N, i, none⟩ = false
  nn : N ≠ A ∧ N ≠ D ∧ N ≠ P ∧ N ≠ L ∧ N ≠ M ∧ w.heap.size ≤ N
section
variable {w W X : World} {A D P L M N b b' : Nat} {lo nx sq lo2 nx2 sq2 : Int}
theorem Pk.below (h : Pk w W A D P L M N lo nx sq b) (hb : Below W.heap.size W X) : Pk w X A D P L M N lo nx sq b :=
  ⟨h.s.below hb, keep_h hb h.n0, keep_h hb h.n1, fun i => (hb.frozen (p := ⟨N, i, none⟩) (show N < W.heap.size from blk_of h.n0)).trans (h.nf i), h.nn⟩
/-- Behind a Keep: the point may be another one, the law's own isn't yet. -/
structure Pj (w W : World) (A D P L M N : Nat) (lo nx sq : Int) (b : Nat) (lo1 nx1 : Int) : Prop where
  s : Pt w W A D P L M 3 false 0 b lo nx sq
  n0 : W.cell? ⟨N, 0, none⟩ = some (.int .i64 lo1)
  n1 : W.cell? ⟨N, 1, none⟩ = some (.int .i64 nx1)
  nf : ∀ i, W.frozen? ⟨N, i, none⟩ = false
  nn : N ≠ A ∧ N ≠ D ∧ N ≠ P ∧ N ≠ L ∧ N ≠ M ∧ w.heap.size ≤ N
theorem Pk.keep (h : Pk w W A D P L M N lo nx sq b) (hs : Pt w X A D P L M 3 false 0 b' lo2 nx2 sq2) (hf : Fr4 P L M A W X) : Pj w X A D P L M N lo2 nx2 sq2 b' lo nx := by
  obtain ⟨h1, h2, h3, h4, h5, h6⟩ := h.nn
  exact ⟨hs, hf.cell h.n0 ⟨h3, h4, h5, h1⟩, hf.cell h.n1 ⟨h3, h4, h5, h1⟩, fun i => (World.frozen?_of_block (a := ⟨N, i, none⟩) (hf.block N (blk_of h.n0) h3 h4 h5 h1)).trans (h.nf i), h.nn⟩
theorem Pj.below {lo1 nx1 : Int} (h : Pj w W A D P L M N lo nx sq b lo1 nx1) (hb : Below W.heap.size W X) : Pj w X A D P L M N lo nx sq b lo1 nx1 :=
  ⟨h.s.below hb, keep_h hb h.n0, keep_h hb h.n1, fun i => (hb.frozen (p := ⟨N, i, none⟩) (show N < W.heap.size from blk_of h.n0)).trans (h.nf i), h.nn⟩
theorem Pj.same (h : Pj w W A D P L M N lo nx sq b lo nx) : Pk w W A D P L M N lo nx sq b := ⟨h.s, h.n0, h.n1, h.nf, h.nn⟩
theorem Pj.put {lo1 nx1 : Int} (h : Pj w W A D P L M N lo nx sq b lo1 nx1) : Pk w ((W.setCell ⟨N, 0, none⟩ (.int .i64 lo)).setCell ⟨N, 1, none⟩ (.int .i64 nx)) A D P L M N lo nx sq b := by
  obtain ⟨h1, h2, h3, h4, h5, h6⟩ := h.nn
  have o : ∀ {Y : World} {b i j : Nat} {v u : Value}, (N ≠ b ∨ i ≠ j) → Y.cell? ⟨b, j, none⟩ = some v → (Y.setCell ⟨N, i, none⟩ u).cell? ⟨b, j, none⟩ = some v := fun hne hc => by
    rw [World.cell?_setCell_other _ _ _ _ (fun e => by injection e with e1 e2; rcases hne with hne | hne; exact hne e1; exact hne e2)]; exact hc
  obtain ⟨⟨c0, c1, c2, c3, fz⟩, ⟨kk, uses, las, hd, hk⟩, ne, bw, l'⟩ := h.s
  refine ⟨⟨⟨o (.inl h1) (o (.inl h1) c0), o (.inl h1) (o (.inl h1) c1), o (.inl h1) (o (.inl h1) c2), o (.inl h1) (o (.inl h1) c3), fun i => by simp only [World.frozen?_setCell]; exact fz i⟩,
    ⟨kk, uses, las, dev_set (dev_set hd ⟨h2, h3, h4, h5⟩) ⟨h2, h3, h4, h5⟩, hk⟩, ne, (bw.setCell h6 _).setCell h6 _, l'⟩, ?_, ?_, fun i => by simp only [World.frozen?_setCell]; exact h.nf i, h.nn⟩
  · exact o (.inr (by decide)) (World.cell?_setCell_same _ _ _ h.n0)
  · exact World.cell?_setCell_same _ _ _ (o (.inr (by decide)) h.n1)
theorem pk_new (h : Pt w W A D P L M 3 false 0 b 0 0 sq) (T : TypeId) : Pk w (W.alloc (.cells #[.int .i64 0, .int .i64 0] T)) A D P L M W.heap.size 0 0 sq b := by
  have hl := h.l.lts
  have hA : A < W.heap.size := blk_of h.m.c0
  have hbs := h.bw.size
  exact ⟨h.below ((Below.refl _ _).alloc (Nat.le_refl _) _), new_h rfl rfl, new_h rfl rfl, fun _ => World.frozen?_alloc_at _ _ _ _ rfl, by omega, by omega, by omega, by omega, by omega, hbs⟩
theorem new19c (w : World) : Calls Tryd.prog 9 #[.pointer none, .int .i64 3] w (Dv.NewPost w 3) := Dv.new_any 3 w (by omega) (by omega)
end
/-- Where the rest of a region only reads, but for draws: in the text's order. -/
theorem wpAny_restq {P : Program} {l : List Oper} {fuel : Nat} {listed : Array Bool} {a : Act} {w : World} {Q : Exit → Act → World → Prop} (k : Nat) (hf : fuel = (l.drop k).length)
    (hB : (Region.noSelect l.toArray && Region.lexFrom .any l.toArray (l.drop k).length k listed) = true)
    (h : wpQuiet P l.toArray (fun w' => ∃ n, w' = w.drewN n) (fun a' => ∀ w', (∃ n, w' = w.drewN n) → Q .normal a' w') (l.drop k) a) : wpAny P .any l.toArray Q fuel listed a w := by
  rw [Bool.and_eq_true] at hB
  subst hf
  exact wpAny_of_quiet (C := fun w' => ∃ n, w' = w.drewN n) (Q := fun a' => ∀ w', (∃ n, w' = w.drewN n) → Q .normal a' w') (fun _ w' hw' h => h w' hw') _ _ _ _ ⟨0, rfl⟩ (wpAnyQ_lex hB.1 _ k listed a (fun j => by simp) hB.2 h)
set_option maxRecDepth 100000 in
set_option maxHeartbeats 16000000 in
theorem pointKeeps_walk (la : Option Addr) (l : List (Int × Int)) (lc : Nat) (w : World) (hn : l.length ≤ maxLen) (hI : PtsAt w la l) (ht : Tab w) :
    Calls Tryd.prog 4 #[.slice la l.length lc] w fun x w' => x = .returned (.bool true) ∧ Below w.heap.size w w' := by
  unfold maxLen at hn
  have KA := Lib.hid (fun W hT => awake19_any W hT)
  have HT := Lib.hid ht
  have HI := Lib.hid hI
  clear ht hI
  by_cases h1 : (l.length : Int) ≤ 30
  · have KN := Lib.hid new19c
    have KF := Lib.hid (fun W D P L M (h : Dv.DevAt W D P L M 3 0 false 0 false 0 (List.replicate 3 Dv.blank64) (fun _ => none)) (hw : Below w.heap.size w W) hlo => (show Calls _ _ _ _ (FmYes w D P L M 3) from format_any 3 (by omega) h HT.out hw hlo))
    go_enter Tryd.func4, Tryd.ntmps4
    go_wp2_with fail
    refine (KA.out _ HT.out).mono ?_
    rintro x w1 ⟨rfl, hb⟩
    have B1 := Lib.hid hb
    clear hb KA
    have hs1 := B1.out.size
    go_wp2_with fail
    refine (KN.out _).mono ?_
    rintro x w2 ⟨rfl, hd, hb⟩
    have K1 := Lib.hid (KF.out _ _ _ _ _ hd (B1.out.trans (hb.mono hs1)) ⟨hs1, Nat.le_trans hs1 (Nat.le_succ _), Nat.le_trans hs1 (Nat.le_trans (Nat.le_succ _) (Nat.le_succ _))⟩)
    clear hd hb KN KF hs1 B1
    generalize w1.heap.size + 1 + 1 + 1 = D at *
    generalize w1.heap.size + 1 + 1 = M at *
    generalize w1.heap.size + 1 = L at *
    generalize w1.heap.size = P at *
    go_wp2_with fail
    refine K1.out.mono ?_
    rintro x w3 ⟨A, rfl, hP⟩
    have P3 := Lib.hid hP
    clear hP K1
    have K3 := Lib.hid (pt_point P3.out)
    go_wp2_with fail
    refine K3.out.mono ?_
    rintro x w4 ⟨rfl, hb⟩
    have S5 := Lib.hid (pk_new (P3.out.below hb) 34)
    clear hb K3 P3
    go_upto_region 8 with fail
    generalize w4.alloc (.cells #[.int .i64 0, .int .i64 0] 34) = Y at *
    generalize w4.heap.size = N at *
    go_wp2
    go_loopw [7] (fun iv wr => ∃ (k : Nat) (lo nx sq : Int) (b : Nat), k ≤ l.length ∧ iv = .int .i64 k ∧ b ≤ k + 1 ∧ sq ≤ k + 1 ∧ Hid (Pk w wr A D P L M N lo nx sq b)) (fun iv _ => l.length - (intOf iv).toNat)
    case atStart => exact ⟨0, 0, 0, 1, 1, Nat.zero_le _, rfl, by omega, by omega, S5⟩
    case round =>
      obtain ⟨k, lo, nx, sq, b, hkl, rfl, hb, hsq, HK⟩ := hrel
      rename World => wa
      clear S5
      by_cases hlt : k < l.length
      · have hb1 : b ≤ 1000 := by omega
        have hsq1 : sq ≤ 1000 := by omega
        obtain ⟨bb, off, rfl, e0, e1⟩ : ∃ bb off, la = some ⟨bb, off, none⟩ ∧ wa.cell? ⟨bb, off + k * 2 + 0, none⟩ = some (.int .i64 (l.getD k noPt).1) ∧ wa.cell? ⟨bb, off + k * 2 + 1, none⟩ = some (.int .i64 (l.getD k noPt).2) := by
          rcases HI.out.below HK.out.s.bw with rfl | ⟨bb, off, e, h⟩
          · simp at hlt
          · exact ⟨bb, off, e, h k hlt⟩
        have hbb : bb < w.heap.size := by
          rcases HI.out with rfl | ⟨bb2, off2, e, h⟩
          · simp at hlt
          · injection e with e; injection e with e1 e2; rw [e1]; exact blk_of (h k hlt).1
        have hk0 : (k : Int) < (l.length : Int) := by omega
        generalize l.getD k noPt = q at *
        obtain ⟨a, c⟩ := q
        simp only at e0 e1
        rw [Nat.add_zero] at e0
        obtain ⟨u, hu, KU0⟩ := pt_uses HK.out.s
        have KU := Lib.hid KU0
        have HU := Lib.hid hu
        clear hu KU0
        have ok := HK.out.s.ok
        have LO := HK.out.s.lo'
        have hne : bb ≠ P ∧ bb ≠ L ∧ bb ≠ M ∧ bb ≠ A ∧ bb ≠ N := ⟨by omega, by omega, by omega, by omega, by have := HK.out.nn; omega⟩
        have HNE := Lib.hid hne
        have HOK := Lib.hid ok
        clear LO ok hne
        go_wp2_with fail
        refine KU.out.mono ?_
        rintro x wb ⟨rfl, rfl⟩
        go_upto_region 13 with fail
        have n0 := HK.out.n0
        have n1 := HK.out.n1
        by_cases hA1 : a < lo
        · have hd1 : decide (a < lo) = true := by simpa using hA1
          go_quiet (fail)
          rename_i nq
          have HK2 : Hid (Pk w (wa.drewN nq) A D P L M N lo nx sq b) := HK.out.below (below_drewN (Below.refl _ _) nq)
          have f0 : (wa.drewN nq).cell? ⟨bb, off + k * 2, none⟩ = some (.int .i64 a) := e0
          have f1 : (wa.drewN nq).cell? ⟨bb, off + k * 2 + 1, none⟩ = some (.int .i64 c) := e1
          have HU2 : Hid ((wa.drewN nq).cell? ⟨P, 1, none⟩ = some (.int .i64 u)) := HU.out
          clear HK n0 n1 e0 e1 HU KU
          generalize wa.drewN nq = Z at *
          go_upto_region 15 with fail
          have n0 := HK2.out.n0
          have n1 := HK2.out.n1
          have KK := Lib.hid (fun X (hX : Below Z.heap.size Z X) => pt_low (HK2.out.s.below hX) a c (.inl hA1))
          refine wp_region_any (by kernel_rfl) ?_
          change wpAny _ _ _ _ _ _ _ (World.drew _)
          refine wpAny_take (i := 0) (v := ?_) rfl (by kernel_rfl) (by kernel_rfl) (by kernel_rfl) (fun _ _ _ h => h) (Or.inl ⟨by rfl, ?_⟩) ?_
          rotate_left 1
          · (intro w9; go_simp; try (with_reducible rfl))
          try simp only [Act.put]
          refine wpAny_take (i := 1) (v := ?_) rfl (by kernel_rfl) (by kernel_rfl) (by kernel_rfl) (fun _ _ _ h => h) (Or.inl ⟨by rfl, ?_⟩) ?_
          rotate_left 1
          · (intro w9; go_simp; try (with_reducible rfl))
          try simp only [Act.put]
          refine wpAny_take (i := 2) (v := ?_) rfl (by kernel_rfl) (by kernel_rfl) (by kernel_rfl) (fun _ _ _ h => h) (Or.inl ⟨by rfl, ?_⟩) ?_
          rotate_left 1
          · (intro w9; go_simp; try (with_reducible rfl))
          try simp only [Act.put]
          refine wpAny_take (i := 3) (v := ?_) rfl (by kernel_rfl) (by kernel_rfl) (by kernel_rfl) (fun _ _ _ h => h) (Or.inl ⟨by rfl, ?_⟩) ?_
          rotate_left 1
          · (intro w9; go_simp; try (with_reducible rfl))
          try simp only [Act.put]
          refine wpAny_take (i := 6) (v := ?_) rfl (by kernel_rfl) (by kernel_rfl) (by kernel_rfl) (fun _ _ _ h => h) (Or.inl ⟨by rfl, ?_⟩) ?_
          rotate_left 1
          · (intro w9; go_simp; try (with_reducible rfl))
          try simp only [Act.put]
          refine wpAny_ready (rs := [4]) (by kernel_rfl) (by simp) ?_
          refine AllReady.cons rfl (fun K hK => ?_) AllReady.nil
          go_simp
          refine hK _ _ ?_
          clear hK K
          refine wpAny_ready (rs := [5]) (by kernel_rfl) (by simp) ?_
          refine AllReady.cons rfl (fun K hK => ?_) AllReady.nil
          go_simp
          refine (KK.out _ (Below.refl _ _).drew).mono ?_
          rintro e6 w6 ⟨rfl, hs6, hf6⟩
          go_simp
          refine hK _ _ ?_
          clear hK K
          have J6 := (HK2.out.below (Below.refl Z.heap.size Z).drew).keep hs6 hf6
          have g0 := hf6.cell (p := ⟨bb, off + k * 2, none⟩) (show Z.drew.cell? _ = _ from f0) ⟨HNE.out.1, HNE.out.2.1, HNE.out.2.2.1, HNE.out.2.2.2.1⟩
          have g1 := hf6.cell (p := ⟨bb, off + k * 2 + 1, none⟩) (show Z.drew.cell? _ = _ from f1) ⟨HNE.out.1, HNE.out.2.1, HNE.out.2.2.1, HNE.out.2.2.2.1⟩
          have J := Lib.hid J6
          clear hs6 hf6 J6 f0 f1 n0 n1 HK2 KK
          have g2 := J.out.n0
          have g3 := J.out.n1
          refine wpAny_restq 7 (by rfl) (by kernel_rfl) ?_
          simp only [List.drop_succ_cons, List.drop_zero]
          repeat (go_big_quiet_step (fail))
          refine wpQuiet_nil ?_
          intro _ hw7
          obtain ⟨n7, hw8⟩ := hw7
          subst hw8
          have SK := Lib.hid (J.out.below (below_drewN (Below.refl _ _) n7)).same
          clear J g0 g1 g2 g3
          generalize w6.drewN n7 = V at *
          go_upto_region 19 with fail
          have KO := Lib.hid (pt_open SK.out.s (by omega) HT.out)
          go_wp2_with fail
          refine KO.out.mono ?_
          rintro x w8 ⟨A2, hA2, rfl, hm8, hb8⟩
          have S8 := Lib.hid (SK.out.below hb8)
          have M8 := Lib.hid hm8
          clear hm8 hb8 hA2 KO SK
          have m0 := S8.out.n0
          have m1 := S8.out.n1
          have K1 := Lib.hid (fun X (hX : Below w8.heap.size w8 X) => pt_point (S8.out.s.below hX))
          have K2 := Lib.hid (fun X (hX : Below w8.heap.size w8 X) => point_any (M8.out.below hX))
          go_upto_region 20 with fail
          go_region_held3 (fun w' => w'.cell? ⟨N, 0, none⟩ = some (.int .i64 lo) ∧ w'.cell? ⟨N, 1, none⟩ = some (.int .i64 nx)) (go_keep)
            (first
              | (go_at_call 11; (with_reducible refine (K1.out _ (Below.refl _ _).drew).mono ?_); rintro x w10 ⟨rfl, hb10⟩; have hb11 := (Below.refl w8.heap.size w8).drew.trans hb10; have r0 := keep_h hb11 m0; have r1 := keep_h hb11 m1)
              | (go_at_call 11; (with_reducible refine (K2.out _ hb11).mono ?_); rintro x w11 ⟨rfl, hb12⟩; have hb13 := hb11.trans (hb12.mono hb11.size); have r2 := keep_h hb13 m0; have r3 := keep_h hb13 m1))
          all_goals
            have S9 := Lib.hid (S8.out.below hb13)
            clear hb10 hb11 hb12 hb13 S8
            go_wp2
            go_roundw
            case rel => exact ⟨k + 1, lo, nx, sq, b, by omega, by go_num, by omega, by omega, S9⟩
            case measure => simp [intOf]; omega
        · by_cases hA2 : c < nx
          · have hd1 : decide (a < lo) = false := by simpa using hA1
            have hd2 : decide (c < nx) = true := by simpa using hA2
            go_quiet (fail)
            rename_i nq
            have HK2 : Hid (Pk w (wa.drewN nq) A D P L M N lo nx sq b) := HK.out.below (below_drewN (Below.refl _ _) nq)
            have f0 : (wa.drewN nq).cell? ⟨bb, off + k * 2, none⟩ = some (.int .i64 a) := e0
            have f1 : (wa.drewN nq).cell? ⟨bb, off + k * 2 + 1, none⟩ = some (.int .i64 c) := e1
            have HU2 : Hid ((wa.drewN nq).cell? ⟨P, 1, none⟩ = some (.int .i64 u)) := HU.out
            clear HK n0 n1 e0 e1 HU KU
            generalize wa.drewN nq = Z at *
            go_upto_region 15 with fail
            have n0 := HK2.out.n0
            have n1 := HK2.out.n1
            have KK := Lib.hid (fun X (hX : Below Z.heap.size Z X) => pt_low (HK2.out.s.below hX) a c (.inr hA2))
            refine wp_region_any (by kernel_rfl) ?_
            change wpAny _ _ _ _ _ _ _ (World.drew _)
            refine wpAny_take (i := 0) (v := ?_) rfl (by kernel_rfl) (by kernel_rfl) (by kernel_rfl) (fun _ _ _ h => h) (Or.inl ⟨by rfl, ?_⟩) ?_
            rotate_left 1
            · (intro w9; go_simp; try (with_reducible rfl))
            try simp only [Act.put]
            refine wpAny_take (i := 1) (v := ?_) rfl (by kernel_rfl) (by kernel_rfl) (by kernel_rfl) (fun _ _ _ h => h) (Or.inl ⟨by rfl, ?_⟩) ?_
            rotate_left 1
            · (intro w9; go_simp; try (with_reducible rfl))
            try simp only [Act.put]
            refine wpAny_take (i := 2) (v := ?_) rfl (by kernel_rfl) (by kernel_rfl) (by kernel_rfl) (fun _ _ _ h => h) (Or.inl ⟨by rfl, ?_⟩) ?_
            rotate_left 1
            · (intro w9; go_simp; try (with_reducible rfl))
            try simp only [Act.put]
            refine wpAny_take (i := 3) (v := ?_) rfl (by kernel_rfl) (by kernel_rfl) (by kernel_rfl) (fun _ _ _ h => h) (Or.inl ⟨by rfl, ?_⟩) ?_
            rotate_left 1
            · (intro w9; go_simp; try (with_reducible rfl))
            try simp only [Act.put]
            refine wpAny_take (i := 6) (v := ?_) rfl (by kernel_rfl) (by kernel_rfl) (by kernel_rfl) (fun _ _ _ h => h) (Or.inl ⟨by rfl, ?_⟩) ?_
            rotate_left 1
            · (intro w9; go_simp; try (with_reducible rfl))
            try simp only [Act.put]
            refine wpAny_ready (rs := [4]) (by kernel_rfl) (by simp) ?_
            refine AllReady.cons rfl (fun K hK => ?_) AllReady.nil
            go_simp
            refine hK _ _ ?_
            clear hK K
            refine wpAny_ready (rs := [5]) (by kernel_rfl) (by simp) ?_
            refine AllReady.cons rfl (fun K hK => ?_) AllReady.nil
            go_simp
            refine (KK.out _ (Below.refl _ _).drew).mono ?_
            rintro e6 w6 ⟨rfl, hs6, hf6⟩
            go_simp
            refine hK _ _ ?_
            clear hK K
            have J6 := (HK2.out.below (Below.refl Z.heap.size Z).drew).keep hs6 hf6
            have g0 := hf6.cell (p := ⟨bb, off + k * 2, none⟩) (show Z.drew.cell? _ = _ from f0) ⟨HNE.out.1, HNE.out.2.1, HNE.out.2.2.1, HNE.out.2.2.2.1⟩
            have g1 := hf6.cell (p := ⟨bb, off + k * 2 + 1, none⟩) (show Z.drew.cell? _ = _ from f1) ⟨HNE.out.1, HNE.out.2.1, HNE.out.2.2.1, HNE.out.2.2.2.1⟩
            have J := Lib.hid J6
            clear hs6 hf6 J6 f0 f1 n0 n1 HK2 KK
            have g2 := J.out.n0
            have g3 := J.out.n1
            refine wpAny_restq 7 (by rfl) (by kernel_rfl) ?_
            simp only [List.drop_succ_cons, List.drop_zero]
            repeat (go_big_quiet_step (fail))
            refine wpQuiet_nil ?_
            intro _ hw7
            obtain ⟨n7, hw8⟩ := hw7
            subst hw8
            have SK := Lib.hid (J.out.below (below_drewN (Below.refl _ _) n7)).same
            clear J g0 g1 g2 g3
            generalize w6.drewN n7 = V at *
            go_upto_region 19 with fail
            have KO := Lib.hid (pt_open SK.out.s (by omega) HT.out)
            go_wp2_with fail
            refine KO.out.mono ?_
            rintro x w8 ⟨A2, hA2, rfl, hm8, hb8⟩
            have S8 := Lib.hid (SK.out.below hb8)
            have M8 := Lib.hid hm8
            clear hm8 hb8 hA2 KO SK
            have m0 := S8.out.n0
            have m1 := S8.out.n1
            have K1 := Lib.hid (fun X (hX : Below w8.heap.size w8 X) => pt_point (S8.out.s.below hX))
            have K2 := Lib.hid (fun X (hX : Below w8.heap.size w8 X) => point_any (M8.out.below hX))
            go_upto_region 20 with fail
            go_region_held3 (fun w' => w'.cell? ⟨N, 0, none⟩ = some (.int .i64 lo) ∧ w'.cell? ⟨N, 1, none⟩ = some (.int .i64 nx)) (go_keep)
              (first
                | (go_at_call 11; (with_reducible refine (K1.out _ (Below.refl _ _).drew).mono ?_); rintro x w10 ⟨rfl, hb10⟩; have hb11 := (Below.refl w8.heap.size w8).drew.trans hb10; have r0 := keep_h hb11 m0; have r1 := keep_h hb11 m1)
                | (go_at_call 11; (with_reducible refine (K2.out _ hb11).mono ?_); rintro x w11 ⟨rfl, hb12⟩; have hb13 := hb11.trans (hb12.mono hb11.size); have r2 := keep_h hb13 m0; have r3 := keep_h hb13 m1))
            all_goals
              have S9 := Lib.hid (S8.out.below hb13)
              clear hb10 hb11 hb12 hb13 S8
              go_wp2
              go_roundw
              case rel => exact ⟨k + 1, lo, nx, sq, b, by omega, by go_num, by omega, by omega, S9⟩
              case measure => simp [intOf]; omega
          · by_cases hS1 : smB a
            · by_cases hS2 : smB c
              · by_cases hE : a = lo ∧ c = nx
                · obtain ⟨rfl, rfl⟩ := hE
                  have hd1 : decide (a < a) = false := by simp
                  have hd2 : decide (c < c) = false := by simp
                  go_quiet ((first | (go_at_call 13; exact Calls.quiet_of_same (small_yes hS1 _)) | (go_at_call 13; exact Calls.quiet_of_same (small_yes hS2 _))))
                  rename_i nq
                  have HK2 : Hid (Pk w (wa.drewN nq) A D P L M N a c sq b) := HK.out.below (below_drewN (Below.refl _ _) nq)
                  have f0 : (wa.drewN nq).cell? ⟨bb, off + k * 2, none⟩ = some (.int .i64 a) := e0
                  have f1 : (wa.drewN nq).cell? ⟨bb, off + k * 2 + 1, none⟩ = some (.int .i64 c) := e1
                  have HU2 : Hid ((wa.drewN nq).cell? ⟨P, 1, none⟩ = some (.int .i64 u)) := HU.out
                  clear HK n0 n1 e0 e1 HU KU
                  generalize wa.drewN nq = Z at *
                  go_upto_region 15 with fail
                  have n0 := HK2.out.n0
                  have n1 := HK2.out.n1
                  have KK := Lib.hid (fun X (hX : Below Z.heap.size Z X) => pt_same (HK2.out.s.below hX))
                  refine wp_region_any (by kernel_rfl) ?_
                  change wpAny _ _ _ _ _ _ _ (World.drew _)
                  refine wpAny_take (i := 0) (v := ?_) rfl (by kernel_rfl) (by kernel_rfl) (by kernel_rfl) (fun _ _ _ h => h) (Or.inl ⟨by rfl, ?_⟩) ?_
                  rotate_left 1
                  · (intro w9; go_simp; try (with_reducible rfl))
                  try simp only [Act.put]
                  refine wpAny_take (i := 1) (v := ?_) rfl (by kernel_rfl) (by kernel_rfl) (by kernel_rfl) (fun _ _ _ h => h) (Or.inl ⟨by rfl, ?_⟩) ?_
                  rotate_left 1
                  · (intro w9; go_simp; try (with_reducible rfl))
                  try simp only [Act.put]
                  refine wpAny_take (i := 2) (v := ?_) rfl (by kernel_rfl) (by kernel_rfl) (by kernel_rfl) (fun _ _ _ h => h) (Or.inl ⟨by rfl, ?_⟩) ?_
                  rotate_left 1
                  · (intro w9; go_simp; try (with_reducible rfl))
                  try simp only [Act.put]
                  refine wpAny_take (i := 3) (v := ?_) rfl (by kernel_rfl) (by kernel_rfl) (by kernel_rfl) (fun _ _ _ h => h) (Or.inl ⟨by rfl, ?_⟩) ?_
                  rotate_left 1
                  · (intro w9; go_simp; try (with_reducible rfl))
                  try simp only [Act.put]
                  refine wpAny_take (i := 6) (v := ?_) rfl (by kernel_rfl) (by kernel_rfl) (by kernel_rfl) (fun _ _ _ h => h) (Or.inl ⟨by rfl, ?_⟩) ?_
                  rotate_left 1
                  · (intro w9; go_simp; try (with_reducible rfl))
                  try simp only [Act.put]
                  refine wpAny_ready (rs := [4]) (by kernel_rfl) (by simp) ?_
                  refine AllReady.cons rfl (fun K hK => ?_) AllReady.nil
                  go_simp
                  refine hK _ _ ?_
                  clear hK K
                  refine wpAny_ready (rs := [5]) (by kernel_rfl) (by simp) ?_
                  refine AllReady.cons rfl (fun K hK => ?_) AllReady.nil
                  go_simp
                  refine (KK.out _ (Below.refl _ _).drew).mono ?_
                  rintro e6 w6 ⟨rfl, hb6⟩
                  go_simp
                  refine hK _ _ ?_
                  clear hK K
                  have hs6 := (HK2.out.s.below (Below.refl Z.heap.size Z).drew).below hb6
                  have hf6 : Fr4 P L M A Z.drew w6 := .of_below hb6
                  have hu6 := keep_h hb6 (show Z.drew.cell? ⟨P, 1, none⟩ = _ from HU2.out)
                  clear hb6
                  have J6 := (HK2.out.below (Below.refl Z.heap.size Z).drew).keep hs6 hf6
                  have g0 := hf6.cell (p := ⟨bb, off + k * 2, none⟩) (show Z.drew.cell? _ = _ from f0) ⟨HNE.out.1, HNE.out.2.1, HNE.out.2.2.1, HNE.out.2.2.2.1⟩
                  have g1 := hf6.cell (p := ⟨bb, off + k * 2 + 1, none⟩) (show Z.drew.cell? _ = _ from f1) ⟨HNE.out.1, HNE.out.2.1, HNE.out.2.2.1, HNE.out.2.2.2.1⟩
                  have J := Lib.hid J6
                  clear hs6 hf6 J6 f0 f1 n0 n1 HK2 KK
                  have g2 := J.out.n0
                  have g3 := J.out.n1
                  have KU6 : Hid (∀ X, Below w6.heap.size w6 X → Calls Tryd.prog 12 #[.pointer (some ⟨D, 0, none⟩)] X fun x w' => x = .returned (.int .i64 u) ∧ w' = X) := fun X hX => by
                    obtain ⟨u7, hu7, KU7⟩ := pt_uses (J.out.s.below hX)
                    rw [keep_h hX hu6] at hu7
                    injection hu7 with hu7
                    injection hu7 with _ hu7
                    subst hu7
                    exact KU7.mono fun _ _ hh => ⟨hh.1, hh.2.symm⟩
                  clear hu6
                  refine wpAny_restq 7 (by rfl) (by kernel_rfl) ?_
                  simp only [List.drop_succ_cons, List.drop_zero]
                  repeat (go_big_quiet_step (exact Calls.quiet_of_same (KU6.out _ (below_drewN (Below.refl _ _) _))))
                  refine wpQuiet_nil ?_
                  intro _ hw7
                  obtain ⟨n7, hw8⟩ := hw7
                  subst hw8
                  have J7 := Lib.hid (J.out.below (below_drewN (Below.refl _ _) n7))
                  have h0 : (w6.drewN n7).cell? ⟨bb, off + k * 2, none⟩ = some (.int .i64 a) := g0
                  have h1' : (w6.drewN n7).cell? ⟨bb, off + k * 2 + 1, none⟩ = some (.int .i64 c) := g1
                  have h2 : (w6.drewN n7).cell? ⟨N, 0, none⟩ = some (.int .i64 a) := g2
                  have h3 : (w6.drewN n7).cell? ⟨N, 1, none⟩ = some (.int .i64 c) := g3
                  have hnf := J7.out.nf
                  have SK := Lib.hid J7.out.put
                  clear J g0 g1 g2 g3 J7 KU6
                  generalize w6.drewN n7 = V at *
                  go_upto_region 19 with fail
                  generalize (V.setCell ⟨N, 0, none⟩ (.int .i64 a)).setCell ⟨N, 1, none⟩ (.int .i64 c) = V2 at *
                  clear h0 h1' h2 h3 hnf
                  have KO := Lib.hid (pt_open SK.out.s (by omega) HT.out)
                  go_wp2_with fail
                  refine KO.out.mono ?_
                  rintro x w8 ⟨A2, hA2, rfl, hm8, hb8⟩
                  have S8 := Lib.hid (SK.out.below hb8)
                  have M8 := Lib.hid hm8
                  clear hm8 hb8 hA2 KO SK
                  have m0 := S8.out.n0
                  have m1 := S8.out.n1
                  have K1 := Lib.hid (fun X (hX : Below w8.heap.size w8 X) => pt_point (S8.out.s.below hX))
                  have K2 := Lib.hid (fun X (hX : Below w8.heap.size w8 X) => point_any (M8.out.below hX))
                  go_upto_region 20 with fail
                  go_region_held3 (fun w' => w'.cell? ⟨N, 0, none⟩ = some (.int .i64 a) ∧ w'.cell? ⟨N, 1, none⟩ = some (.int .i64 c)) (go_keep)
                    (first
                      | (go_at_call 11; (with_reducible refine (K1.out _ (Below.refl _ _).drew).mono ?_); rintro x w10 ⟨rfl, hb10⟩; have hb11 := (Below.refl w8.heap.size w8).drew.trans hb10; have r0 := keep_h hb11 m0; have r1 := keep_h hb11 m1)
                      | (go_at_call 11; (with_reducible refine (K2.out _ hb11).mono ?_); rintro x w11 ⟨rfl, hb12⟩; have hb13 := hb11.trans (hb12.mono hb11.size); have r2 := keep_h hb13 m0; have r3 := keep_h hb13 m1))
                  all_goals
                    have S9 := Lib.hid (S8.out.below hb13)
                    clear hb10 hb11 hb12 hb13 S8
                    go_wp2
                    go_roundw
                    case rel => exact ⟨k + 1, a, c, sq, b, by omega, by go_num, by omega, by omega, S9⟩
                    case measure => simp [intOf]; omega
                · by_cases hE0 : a = lo
                  · subst hE0
                    have hE1 : ¬ c = nx := fun e2 => hE ⟨rfl, e2⟩
                    have HE := Lib.hid hE
                    clear hE
                    have hd1 : decide (a < a) = false := by simp
                    have hd2 : decide (c < nx) = false := by simpa using hA2
                    go_quiet ((first | (go_at_call 13; exact Calls.quiet_of_same (small_yes hS1 _)) | (go_at_call 13; exact Calls.quiet_of_same (small_yes hS2 _))))
                    rename_i nq
                    have HK2 : Hid (Pk w (wa.drewN nq) A D P L M N a nx sq b) := HK.out.below (below_drewN (Below.refl _ _) nq)
                    have f0 : (wa.drewN nq).cell? ⟨bb, off + k * 2, none⟩ = some (.int .i64 a) := e0
                    have f1 : (wa.drewN nq).cell? ⟨bb, off + k * 2 + 1, none⟩ = some (.int .i64 c) := e1
                    have HU2 : Hid ((wa.drewN nq).cell? ⟨P, 1, none⟩ = some (.int .i64 u)) := HU.out
                    clear HK n0 n1 e0 e1 HU KU
                    generalize wa.drewN nq = Z at *
                    go_upto_region 15 with fail
                    have n0 := HK2.out.n0
                    have n1 := HK2.out.n1
                    have KK := Lib.hid (fun X (hX : Below Z.heap.size Z X) => pt_yes (HK2.out.s.below hX) HT.out (by omega) hb1 hsq1 (fun e => by cases e) a c hA1 hA2 HE.out ⟨hS2, hS1⟩)
                    refine wp_region_any (by kernel_rfl) ?_
                    change wpAny _ _ _ _ _ _ _ (World.drew _)
                    refine wpAny_take (i := 0) (v := ?_) rfl (by kernel_rfl) (by kernel_rfl) (by kernel_rfl) (fun _ _ _ h => h) (Or.inl ⟨by rfl, ?_⟩) ?_
                    rotate_left 1
                    · (intro w9; go_simp; try (with_reducible rfl))
                    try simp only [Act.put]
                    refine wpAny_take (i := 1) (v := ?_) rfl (by kernel_rfl) (by kernel_rfl) (by kernel_rfl) (fun _ _ _ h => h) (Or.inl ⟨by rfl, ?_⟩) ?_
                    rotate_left 1
                    · (intro w9; go_simp; try (with_reducible rfl))
                    try simp only [Act.put]
                    refine wpAny_take (i := 2) (v := ?_) rfl (by kernel_rfl) (by kernel_rfl) (by kernel_rfl) (fun _ _ _ h => h) (Or.inl ⟨by rfl, ?_⟩) ?_
                    rotate_left 1
                    · (intro w9; go_simp; try (with_reducible rfl))
                    try simp only [Act.put]
                    refine wpAny_take (i := 3) (v := ?_) rfl (by kernel_rfl) (by kernel_rfl) (by kernel_rfl) (fun _ _ _ h => h) (Or.inl ⟨by rfl, ?_⟩) ?_
                    rotate_left 1
                    · (intro w9; go_simp; try (with_reducible rfl))
                    try simp only [Act.put]
                    refine wpAny_take (i := 6) (v := ?_) rfl (by kernel_rfl) (by kernel_rfl) (by kernel_rfl) (fun _ _ _ h => h) (Or.inl ⟨by rfl, ?_⟩) ?_
                    rotate_left 1
                    · (intro w9; go_simp; try (with_reducible rfl))
                    try simp only [Act.put]
                    refine wpAny_ready (rs := [4]) (by kernel_rfl) (by simp) ?_
                    refine AllReady.cons rfl (fun K hK => ?_) AllReady.nil
                    go_simp
                    refine hK _ _ ?_
                    clear hK K
                    refine wpAny_ready (rs := [5]) (by kernel_rfl) (by simp) ?_
                    refine AllReady.cons rfl (fun K hK => ?_) AllReady.nil
                    go_simp
                    refine (KK.out _ (Below.refl _ _).drew).mono ?_
                    rintro e6 w6 ⟨rfl, hs6, hf6⟩
                    go_simp
                    refine hK _ _ ?_
                    clear hK K
                    have J6 := (HK2.out.below (Below.refl Z.heap.size Z).drew).keep hs6 hf6
                    have g0 := hf6.cell (p := ⟨bb, off + k * 2, none⟩) (show Z.drew.cell? _ = _ from f0) ⟨HNE.out.1, HNE.out.2.1, HNE.out.2.2.1, HNE.out.2.2.2.1⟩
                    have g1 := hf6.cell (p := ⟨bb, off + k * 2 + 1, none⟩) (show Z.drew.cell? _ = _ from f1) ⟨HNE.out.1, HNE.out.2.1, HNE.out.2.2.1, HNE.out.2.2.2.1⟩
                    have J := Lib.hid J6
                    clear hs6 hf6 J6 f0 f1 n0 n1 HK2 KK
                    have g2 := J.out.n0
                    have g3 := J.out.n1
                    refine wpAny_restq 7 (by rfl) (by kernel_rfl) ?_
                    simp only [List.drop_succ_cons, List.drop_zero]
                    repeat (go_big_quiet_step (fail))
                    refine wpQuiet_nil ?_
                    intro _ hw7
                    obtain ⟨n7, hw8⟩ := hw7
                    subst hw8
                    have J7 := Lib.hid (J.out.below (below_drewN (Below.refl _ _) n7))
                    have h0 : (w6.drewN n7).cell? ⟨bb, off + k * 2, none⟩ = some (.int .i64 a) := g0
                    have h1' : (w6.drewN n7).cell? ⟨bb, off + k * 2 + 1, none⟩ = some (.int .i64 c) := g1
                    have h2 : (w6.drewN n7).cell? ⟨N, 0, none⟩ = some (.int .i64 a) := g2
                    have h3 : (w6.drewN n7).cell? ⟨N, 1, none⟩ = some (.int .i64 nx) := g3
                    have hnf := J7.out.nf
                    have SK := Lib.hid J7.out.put
                    clear J g0 g1 g2 g3 J7
                    generalize w6.drewN n7 = V at *
                    go_upto_region 19 with fail
                    generalize (V.setCell ⟨N, 0, none⟩ (.int .i64 a)).setCell ⟨N, 1, none⟩ (.int .i64 c) = V2 at *
                    clear h0 h1' h2 h3 hnf
                    have KO := Lib.hid (pt_open SK.out.s (by omega) HT.out)
                    go_wp2_with fail
                    refine KO.out.mono ?_
                    rintro x w8 ⟨A2, hA2, rfl, hm8, hb8⟩
                    have S8 := Lib.hid (SK.out.below hb8)
                    have M8 := Lib.hid hm8
                    clear hm8 hb8 hA2 KO SK
                    have m0 := S8.out.n0
                    have m1 := S8.out.n1
                    have K1 := Lib.hid (fun X (hX : Below w8.heap.size w8 X) => pt_point (S8.out.s.below hX))
                    have K2 := Lib.hid (fun X (hX : Below w8.heap.size w8 X) => point_any (M8.out.below hX))
                    go_upto_region 20 with fail
                    go_region_held3 (fun w' => w'.cell? ⟨N, 0, none⟩ = some (.int .i64 a) ∧ w'.cell? ⟨N, 1, none⟩ = some (.int .i64 c)) (go_keep)
                      (first
                        | (go_at_call 11; (with_reducible refine (K1.out _ (Below.refl _ _).drew).mono ?_); rintro x w10 ⟨rfl, hb10⟩; have hb11 := (Below.refl w8.heap.size w8).drew.trans hb10; have r0 := keep_h hb11 m0; have r1 := keep_h hb11 m1)
                        | (go_at_call 11; (with_reducible refine (K2.out _ hb11).mono ?_); rintro x w11 ⟨rfl, hb12⟩; have hb13 := hb11.trans (hb12.mono hb11.size); have r2 := keep_h hb13 m0; have r3 := keep_h hb13 m1))
                    all_goals
                      have S9 := Lib.hid (S8.out.below hb13)
                      clear hb10 hb11 hb12 hb13 S8
                      go_wp2
                      go_roundw
                      case rel => exact ⟨k + 1, a, c, sq + 1, b + 1, by omega, by go_num, by omega, by omega, S9⟩
                      case measure => simp [intOf]; omega
                  · have hd1 : decide (a < lo) = false := by simpa using hA1
                    have hd2 : decide (c < nx) = false := by simpa using hA2
                    have HE := Lib.hid hE
                    clear hE
                    go_quiet ((first | (go_at_call 13; exact Calls.quiet_of_same (small_yes hS1 _)) | (go_at_call 13; exact Calls.quiet_of_same (small_yes hS2 _))))
                    rename_i nq
                    have HK2 : Hid (Pk w (wa.drewN nq) A D P L M N lo nx sq b) := HK.out.below (below_drewN (Below.refl _ _) nq)
                    have f0 : (wa.drewN nq).cell? ⟨bb, off + k * 2, none⟩ = some (.int .i64 a) := e0
                    have f1 : (wa.drewN nq).cell? ⟨bb, off + k * 2 + 1, none⟩ = some (.int .i64 c) := e1
                    have HU2 : Hid ((wa.drewN nq).cell? ⟨P, 1, none⟩ = some (.int .i64 u)) := HU.out
                    clear HK n0 n1 e0 e1 HU KU
                    generalize wa.drewN nq = Z at *
                    go_upto_region 15 with fail
                    have n0 := HK2.out.n0
                    have n1 := HK2.out.n1
                    have KK := Lib.hid (fun X (hX : Below Z.heap.size Z X) => pt_yes (HK2.out.s.below hX) HT.out (by omega) hb1 hsq1 (fun e => by cases e) a c hA1 hA2 HE.out ⟨hS2, hS1⟩)
                    refine wp_region_any (by kernel_rfl) ?_
                    change wpAny _ _ _ _ _ _ _ (World.drew _)
                    refine wpAny_take (i := 0) (v := ?_) rfl (by kernel_rfl) (by kernel_rfl) (by kernel_rfl) (fun _ _ _ h => h) (Or.inl ⟨by rfl, ?_⟩) ?_
                    rotate_left 1
                    · (intro w9; go_simp; try (with_reducible rfl))
                    try simp only [Act.put]
                    refine wpAny_take (i := 1) (v := ?_) rfl (by kernel_rfl) (by kernel_rfl) (by kernel_rfl) (fun _ _ _ h => h) (Or.inl ⟨by rfl, ?_⟩) ?_
                    rotate_left 1
                    · (intro w9; go_simp; try (with_reducible rfl))
                    try simp only [Act.put]
                    refine wpAny_take (i := 2) (v := ?_) rfl (by kernel_rfl) (by kernel_rfl) (by kernel_rfl) (fun _ _ _ h => h) (Or.inl ⟨by rfl, ?_⟩) ?_
                    rotate_left 1
                    · (intro w9; go_simp; try (with_reducible rfl))
                    try simp only [Act.put]
                    refine wpAny_take (i := 3) (v := ?_) rfl (by kernel_rfl) (by kernel_rfl) (by kernel_rfl) (fun _ _ _ h => h) (Or.inl ⟨by rfl, ?_⟩) ?_
                    rotate_left 1
                    · (intro w9; go_simp; try (with_reducible rfl))
                    try simp only [Act.put]
                    refine wpAny_take (i := 6) (v := ?_) rfl (by kernel_rfl) (by kernel_rfl) (by kernel_rfl) (fun _ _ _ h => h) (Or.inl ⟨by rfl, ?_⟩) ?_
                    rotate_left 1
                    · (intro w9; go_simp; try (with_reducible rfl))
                    try simp only [Act.put]
                    refine wpAny_ready (rs := [4]) (by kernel_rfl) (by simp) ?_
                    refine AllReady.cons rfl (fun K hK => ?_) AllReady.nil
                    go_simp
                    refine hK _ _ ?_
                    clear hK K
                    refine wpAny_ready (rs := [5]) (by kernel_rfl) (by simp) ?_
                    refine AllReady.cons rfl (fun K hK => ?_) AllReady.nil
                    go_simp
                    refine (KK.out _ (Below.refl _ _).drew).mono ?_
                    rintro e6 w6 ⟨rfl, hs6, hf6⟩
                    go_simp
                    refine hK _ _ ?_
                    clear hK K
                    have J6 := (HK2.out.below (Below.refl Z.heap.size Z).drew).keep hs6 hf6
                    have g0 := hf6.cell (p := ⟨bb, off + k * 2, none⟩) (show Z.drew.cell? _ = _ from f0) ⟨HNE.out.1, HNE.out.2.1, HNE.out.2.2.1, HNE.out.2.2.2.1⟩
                    have g1 := hf6.cell (p := ⟨bb, off + k * 2 + 1, none⟩) (show Z.drew.cell? _ = _ from f1) ⟨HNE.out.1, HNE.out.2.1, HNE.out.2.2.1, HNE.out.2.2.2.1⟩
                    have J := Lib.hid J6
                    clear hs6 hf6 J6 f0 f1 n0 n1 HK2 KK
                    have g2 := J.out.n0
                    have g3 := J.out.n1
                    refine wpAny_restq 7 (by rfl) (by kernel_rfl) ?_
                    simp only [List.drop_succ_cons, List.drop_zero]
                    repeat (go_big_quiet_step (fail))
                    refine wpQuiet_nil ?_
                    intro _ hw7
                    obtain ⟨n7, hw8⟩ := hw7
                    subst hw8
                    have J7 := Lib.hid (J.out.below (below_drewN (Below.refl _ _) n7))
                    have h0 : (w6.drewN n7).cell? ⟨bb, off + k * 2, none⟩ = some (.int .i64 a) := g0
                    have h1' : (w6.drewN n7).cell? ⟨bb, off + k * 2 + 1, none⟩ = some (.int .i64 c) := g1
                    have h2 : (w6.drewN n7).cell? ⟨N, 0, none⟩ = some (.int .i64 lo) := g2
                    have h3 : (w6.drewN n7).cell? ⟨N, 1, none⟩ = some (.int .i64 nx) := g3
                    have hnf := J7.out.nf
                    have SK := Lib.hid J7.out.put
                    clear J g0 g1 g2 g3 J7
                    generalize w6.drewN n7 = V at *
                    go_upto_region 19 with fail
                    generalize (V.setCell ⟨N, 0, none⟩ (.int .i64 a)).setCell ⟨N, 1, none⟩ (.int .i64 c) = V2 at *
                    clear h0 h1' h2 h3 hnf
                    have KO := Lib.hid (pt_open SK.out.s (by omega) HT.out)
                    go_wp2_with fail
                    refine KO.out.mono ?_
                    rintro x w8 ⟨A2, hA2, rfl, hm8, hb8⟩
                    have S8 := Lib.hid (SK.out.below hb8)
                    have M8 := Lib.hid hm8
                    clear hm8 hb8 hA2 KO SK
                    have m0 := S8.out.n0
                    have m1 := S8.out.n1
                    have K1 := Lib.hid (fun X (hX : Below w8.heap.size w8 X) => pt_point (S8.out.s.below hX))
                    have K2 := Lib.hid (fun X (hX : Below w8.heap.size w8 X) => point_any (M8.out.below hX))
                    go_upto_region 20 with fail
                    go_region_held3 (fun w' => w'.cell? ⟨N, 0, none⟩ = some (.int .i64 a) ∧ w'.cell? ⟨N, 1, none⟩ = some (.int .i64 c)) (go_keep)
                      (first
                        | (go_at_call 11; (with_reducible refine (K1.out _ (Below.refl _ _).drew).mono ?_); rintro x w10 ⟨rfl, hb10⟩; have hb11 := (Below.refl w8.heap.size w8).drew.trans hb10; have r0 := keep_h hb11 m0; have r1 := keep_h hb11 m1)
                        | (go_at_call 11; (with_reducible refine (K2.out _ hb11).mono ?_); rintro x w11 ⟨rfl, hb12⟩; have hb13 := hb11.trans (hb12.mono hb11.size); have r2 := keep_h hb13 m0; have r3 := keep_h hb13 m1))
                    all_goals
                      have S9 := Lib.hid (S8.out.below hb13)
                      clear hb10 hb11 hb12 hb13 S8
                      go_wp2
                      go_roundw
                      case rel => exact ⟨k + 1, a, c, sq + 1, b + 1, by omega, by go_num, by omega, by omega, S9⟩
                      case measure => simp [intOf]; omega
              · have hd1 : decide (a < lo) = false := by simpa using hA1
                have hd2 : decide (c < nx) = false := by simpa using hA2
                go_quiet ((first | (go_at_call 13; exact Calls.quiet_of_same (small_yes hS1 _)) | (go_at_call 13; exact Calls.quiet_of_same (small_not hS2 _))))
                rename_i nq
                have HK2 : Hid (Pk w (wa.drewN nq) A D P L M N lo nx sq b) := HK.out.below (below_drewN (Below.refl _ _) nq)
                have f0 : (wa.drewN nq).cell? ⟨bb, off + k * 2, none⟩ = some (.int .i64 a) := e0
                have f1 : (wa.drewN nq).cell? ⟨bb, off + k * 2 + 1, none⟩ = some (.int .i64 c) := e1
                have HU2 : Hid ((wa.drewN nq).cell? ⟨P, 1, none⟩ = some (.int .i64 u)) := HU.out
                clear HK n0 n1 e0 e1 HU KU
                generalize wa.drewN nq = Z at *
                go_upto_region 15 with fail
                have n0 := HK2.out.n0
                have n1 := HK2.out.n1
                have KK := Lib.hid (fun X (hX : Below Z.heap.size Z X) => pt_bad (HK2.out.s.below hX) (by omega) a c hA1 hA2 (fun h => hS2 h.1))
                refine wp_region_any (by kernel_rfl) ?_
                change wpAny _ _ _ _ _ _ _ (World.drew _)
                refine wpAny_take (i := 0) (v := ?_) rfl (by kernel_rfl) (by kernel_rfl) (by kernel_rfl) (fun _ _ _ h => h) (Or.inl ⟨by rfl, ?_⟩) ?_
                rotate_left 1
                · (intro w9; go_simp; try (with_reducible rfl))
                try simp only [Act.put]
                refine wpAny_take (i := 1) (v := ?_) rfl (by kernel_rfl) (by kernel_rfl) (by kernel_rfl) (fun _ _ _ h => h) (Or.inl ⟨by rfl, ?_⟩) ?_
                rotate_left 1
                · (intro w9; go_simp; try (with_reducible rfl))
                try simp only [Act.put]
                refine wpAny_take (i := 2) (v := ?_) rfl (by kernel_rfl) (by kernel_rfl) (by kernel_rfl) (fun _ _ _ h => h) (Or.inl ⟨by rfl, ?_⟩) ?_
                rotate_left 1
                · (intro w9; go_simp; try (with_reducible rfl))
                try simp only [Act.put]
                refine wpAny_take (i := 3) (v := ?_) rfl (by kernel_rfl) (by kernel_rfl) (by kernel_rfl) (fun _ _ _ h => h) (Or.inl ⟨by rfl, ?_⟩) ?_
                rotate_left 1
                · (intro w9; go_simp; try (with_reducible rfl))
                try simp only [Act.put]
                refine wpAny_take (i := 6) (v := ?_) rfl (by kernel_rfl) (by kernel_rfl) (by kernel_rfl) (fun _ _ _ h => h) (Or.inl ⟨by rfl, ?_⟩) ?_
                rotate_left 1
                · (intro w9; go_simp; try (with_reducible rfl))
                try simp only [Act.put]
                refine wpAny_ready (rs := [4]) (by kernel_rfl) (by simp) ?_
                refine AllReady.cons rfl (fun K hK => ?_) AllReady.nil
                go_simp
                refine hK _ _ ?_
                clear hK K
                refine wpAny_ready (rs := [5]) (by kernel_rfl) (by simp) ?_
                refine AllReady.cons rfl (fun K hK => ?_) AllReady.nil
                go_simp
                refine (KK.out _ (Below.refl _ _).drew).mono ?_
                rintro e6 w6 ⟨rfl, hs6, hf6⟩
                go_simp
                refine hK _ _ ?_
                clear hK K
                have J6 := (HK2.out.below (Below.refl Z.heap.size Z).drew).keep hs6 hf6
                have g0 := hf6.cell (p := ⟨bb, off + k * 2, none⟩) (show Z.drew.cell? _ = _ from f0) ⟨HNE.out.1, HNE.out.2.1, HNE.out.2.2.1, HNE.out.2.2.2.1⟩
                have g1 := hf6.cell (p := ⟨bb, off + k * 2 + 1, none⟩) (show Z.drew.cell? _ = _ from f1) ⟨HNE.out.1, HNE.out.2.1, HNE.out.2.2.1, HNE.out.2.2.2.1⟩
                have J := Lib.hid J6
                clear hs6 hf6 J6 f0 f1 n0 n1 HK2 KK
                have g2 := J.out.n0
                have g3 := J.out.n1
                refine wpAny_restq 7 (by rfl) (by kernel_rfl) ?_
                simp only [List.drop_succ_cons, List.drop_zero]
                repeat (go_big_quiet_step (fail))
                refine wpQuiet_nil ?_
                intro _ hw7
                obtain ⟨n7, hw8⟩ := hw7
                subst hw8
                have SK := Lib.hid (J.out.below (below_drewN (Below.refl _ _) n7)).same
                clear J g0 g1 g2 g3
                generalize w6.drewN n7 = V at *
                go_upto_region 19 with fail
                have KO := Lib.hid (pt_open SK.out.s (by omega) HT.out)
                go_wp2_with fail
                refine KO.out.mono ?_
                rintro x w8 ⟨A2, hA2, rfl, hm8, hb8⟩
                have S8 := Lib.hid (SK.out.below hb8)
                have M8 := Lib.hid hm8
                clear hm8 hb8 hA2 KO SK
                have m0 := S8.out.n0
                have m1 := S8.out.n1
                have K1 := Lib.hid (fun X (hX : Below w8.heap.size w8 X) => pt_point (S8.out.s.below hX))
                have K2 := Lib.hid (fun X (hX : Below w8.heap.size w8 X) => point_any (M8.out.below hX))
                go_upto_region 20 with fail
                go_region_held3 (fun w' => w'.cell? ⟨N, 0, none⟩ = some (.int .i64 lo) ∧ w'.cell? ⟨N, 1, none⟩ = some (.int .i64 nx)) (go_keep)
                  (first
                    | (go_at_call 11; (with_reducible refine (K1.out _ (Below.refl _ _).drew).mono ?_); rintro x w10 ⟨rfl, hb10⟩; have hb11 := (Below.refl w8.heap.size w8).drew.trans hb10; have r0 := keep_h hb11 m0; have r1 := keep_h hb11 m1)
                    | (go_at_call 11; (with_reducible refine (K2.out _ hb11).mono ?_); rintro x w11 ⟨rfl, hb12⟩; have hb13 := hb11.trans (hb12.mono hb11.size); have r2 := keep_h hb13 m0; have r3 := keep_h hb13 m1))
                all_goals
                  have S9 := Lib.hid (S8.out.below hb13)
                  clear hb10 hb11 hb12 hb13 S8
                  go_wp2
                  go_roundw
                  case rel => exact ⟨k + 1, lo, nx, sq, b, by omega, by go_num, by omega, by omega, S9⟩
                  case measure => simp [intOf]; omega
            · have hd1 : decide (a < lo) = false := by simpa using hA1
              have hd2 : decide (c < nx) = false := by simpa using hA2
              go_quiet ((first | (go_at_call 13; exact Calls.quiet_of_same (small_not hS1 _))))
              rename_i nq
              have HK2 : Hid (Pk w (wa.drewN nq) A D P L M N lo nx sq b) := HK.out.below (below_drewN (Below.refl _ _) nq)
              have f0 : (wa.drewN nq).cell? ⟨bb, off + k * 2, none⟩ = some (.int .i64 a) := e0
              have f1 : (wa.drewN nq).cell? ⟨bb, off + k * 2 + 1, none⟩ = some (.int .i64 c) := e1
              have HU2 : Hid ((wa.drewN nq).cell? ⟨P, 1, none⟩ = some (.int .i64 u)) := HU.out
              clear HK n0 n1 e0 e1 HU KU
              generalize wa.drewN nq = Z at *
              go_upto_region 15 with fail
              have n0 := HK2.out.n0
              have n1 := HK2.out.n1
              have KK := Lib.hid (fun X (hX : Below Z.heap.size Z X) => pt_bad (HK2.out.s.below hX) (by omega) a c hA1 hA2 (fun h => hS1 h.2))
              refine wp_region_any (by kernel_rfl) ?_
              change wpAny _ _ _ _ _ _ _ (World.drew _)
              refine wpAny_take (i := 0) (v := ?_) rfl (by kernel_rfl) (by kernel_rfl) (by kernel_rfl) (fun _ _ _ h => h) (Or.inl ⟨by rfl, ?_⟩) ?_
              rotate_left 1
              · (intro w9; go_simp; try (with_reducible rfl))
              try simp only [Act.put]
              refine wpAny_take (i := 1) (v := ?_) rfl (by kernel_rfl) (by kernel_rfl) (by kernel_rfl) (fun _ _ _ h => h) (Or.inl ⟨by rfl, ?_⟩) ?_
              rotate_left 1
              · (intro w9; go_simp; try (with_reducible rfl))
              try simp only [Act.put]
              refine wpAny_take (i := 2) (v := ?_) rfl (by kernel_rfl) (by kernel_rfl) (by kernel_rfl) (fun _ _ _ h => h) (Or.inl ⟨by rfl, ?_⟩) ?_
              rotate_left 1
              · (intro w9; go_simp; try (with_reducible rfl))
              try simp only [Act.put]
              refine wpAny_take (i := 3) (v := ?_) rfl (by kernel_rfl) (by kernel_rfl) (by kernel_rfl) (fun _ _ _ h => h) (Or.inl ⟨by rfl, ?_⟩) ?_
              rotate_left 1
              · (intro w9; go_simp; try (with_reducible rfl))
              try simp only [Act.put]
              refine wpAny_take (i := 6) (v := ?_) rfl (by kernel_rfl) (by kernel_rfl) (by kernel_rfl) (fun _ _ _ h => h) (Or.inl ⟨by rfl, ?_⟩) ?_
              rotate_left 1
              · (intro w9; go_simp; try (with_reducible rfl))
              try simp only [Act.put]
              refine wpAny_ready (rs := [4]) (by kernel_rfl) (by simp) ?_
              refine AllReady.cons rfl (fun K hK => ?_) AllReady.nil
              go_simp
              refine hK _ _ ?_
              clear hK K
              refine wpAny_ready (rs := [5]) (by kernel_rfl) (by simp) ?_
              refine AllReady.cons rfl (fun K hK => ?_) AllReady.nil
              go_simp
              refine (KK.out _ (Below.refl _ _).drew).mono ?_
              rintro e6 w6 ⟨rfl, hs6, hf6⟩
              go_simp
              refine hK _ _ ?_
              clear hK K
              have J6 := (HK2.out.below (Below.refl Z.heap.size Z).drew).keep hs6 hf6
              have g0 := hf6.cell (p := ⟨bb, off + k * 2, none⟩) (show Z.drew.cell? _ = _ from f0) ⟨HNE.out.1, HNE.out.2.1, HNE.out.2.2.1, HNE.out.2.2.2.1⟩
              have g1 := hf6.cell (p := ⟨bb, off + k * 2 + 1, none⟩) (show Z.drew.cell? _ = _ from f1) ⟨HNE.out.1, HNE.out.2.1, HNE.out.2.2.1, HNE.out.2.2.2.1⟩
              have J := Lib.hid J6
              clear hs6 hf6 J6 f0 f1 n0 n1 HK2 KK
              have g2 := J.out.n0
              have g3 := J.out.n1
              refine wpAny_restq 7 (by rfl) (by kernel_rfl) ?_
              simp only [List.drop_succ_cons, List.drop_zero]
              repeat (go_big_quiet_step (fail))
              refine wpQuiet_nil ?_
              intro _ hw7
              obtain ⟨n7, hw8⟩ := hw7
              subst hw8
              have SK := Lib.hid (J.out.below (below_drewN (Below.refl _ _) n7)).same
              clear J g0 g1 g2 g3
              generalize w6.drewN n7 = V at *
              go_upto_region 19 with fail
              have KO := Lib.hid (pt_open SK.out.s (by omega) HT.out)
              go_wp2_with fail
              refine KO.out.mono ?_
              rintro x w8 ⟨A2, hA2, rfl, hm8, hb8⟩
              have S8 := Lib.hid (SK.out.below hb8)
              have M8 := Lib.hid hm8
              clear hm8 hb8 hA2 KO SK
              have m0 := S8.out.n0
              have m1 := S8.out.n1
              have K1 := Lib.hid (fun X (hX : Below w8.heap.size w8 X) => pt_point (S8.out.s.below hX))
              have K2 := Lib.hid (fun X (hX : Below w8.heap.size w8 X) => point_any (M8.out.below hX))
              go_upto_region 20 with fail
              go_region_held3 (fun w' => w'.cell? ⟨N, 0, none⟩ = some (.int .i64 lo) ∧ w'.cell? ⟨N, 1, none⟩ = some (.int .i64 nx)) (go_keep)
                (first
                  | (go_at_call 11; (with_reducible refine (K1.out _ (Below.refl _ _).drew).mono ?_); rintro x w10 ⟨rfl, hb10⟩; have hb11 := (Below.refl w8.heap.size w8).drew.trans hb10; have r0 := keep_h hb11 m0; have r1 := keep_h hb11 m1)
                  | (go_at_call 11; (with_reducible refine (K2.out _ hb11).mono ?_); rintro x w11 ⟨rfl, hb12⟩; have hb13 := hb11.trans (hb12.mono hb11.size); have r2 := keep_h hb13 m0; have r3 := keep_h hb13 m1))
              all_goals
                have S9 := Lib.hid (S8.out.below hb13)
                clear hb10 hb11 hb12 hb13 S8
                go_wp2
                go_roundw
                case rel => exact ⟨k + 1, lo, nx, sq, b, by omega, by go_num, by omega, by omega, S9⟩
                case measure => simp [intOf]; omega
      · have hk0 : (l.length : Int) ≤ (k : Int) := by omega
        have HB := Lib.hid HK.out.s.bw
        clear HK
        go_wp2
        go_ret
        exact ⟨rfl, HB.out⟩
  · go_enter Tryd.func4, Tryd.ntmps4
    go_wp2_with fail
    refine (KA.out _ HT.out).mono ?_
    rintro x w2 ⟨rfl, hb2⟩
    have B2 := Lib.hid hb2
    clear hb2
    go_wp2
    go_ret
    exact ⟨rfl, B2.out⟩
end Go.Proofs.YtpoagfldekppkaaDoor
