/-
  PointCrashes: the walk.
-/
import Derived.Test.YtpoagfldekppkaaDoorPtFell
import Derived.Test.YtpoagfldekppkaaDoorPtAwake
import Derived.Deep.RegionHeld3
namespace Go.Proofs.YtpoagfldekppkaaDoor
open Go.RowKit
/-- Two cells of the walk's own. -/
structure Two2 (W : World) (N : Nat) (a b : Int) : Prop where
  c0 : W.cell? ⟨N, 0, none⟩ = some (.int .i64 a)
  c1 : W.cell? ⟨N, 1, none⟩ = some (.int .i64 b)
  fz : ∀ i, W.frozen? ⟨N, i, none⟩ = false
section
variable {w W X : World} {A D P L M N b b' : Nat} {left left' a c a' c' lo nx sq lo2 nx2 sq2 : Int}
theorem Two2.below (h : Two2 W N a c) (hb : Below W.heap.size W X) : Two2 X N a c :=
  ⟨keep_h hb h.c0, keep_h hb h.c1, fun i => (hb.frozen (p := ⟨N, i, none⟩) (show N < W.heap.size from blk_of h.c0)).trans (h.fz i)⟩
theorem Two2.fr4 (h : Two2 W N a c) (hf : Fr4 P L M A W X) (hn : N ≠ P ∧ N ≠ L ∧ N ≠ M ∧ N ≠ A) : Two2 X N a c :=
  ⟨hf.cell h.c0 hn, hf.cell h.c1 hn, fun i => (World.frozen?_of_block (a := ⟨N, i, none⟩) (hf.block N (blk_of h.c0) hn.1 hn.2.1 hn.2.2.1 hn.2.2.2)).trans (h.fz i)⟩
theorem Two2.put (h : Two2 W N a c) (u v : Int) : Two2 ((W.setCell ⟨N, 0, none⟩ (.int .i64 u)).setCell ⟨N, 1, none⟩ (.int .i64 v)) N u v := by
  refine ⟨?_, ?_, fun i => by simp only [World.frozen?_setCell]; exact h.fz i⟩
  · rw [World.cell?_setCell_other _ _ _ _ (fun e => by injection e with _ e2; cases e2)]; exact World.cell?_setCell_same _ _ _ h.c0
  · exact World.cell?_setCell_same _ _ _ (by rw [World.cell?_setCell_other _ _ _ _ (fun e => by injection e with _ e2; cases e2)]; exact h.c1)
theorem Two2.other {K : Nat} (h : Two2 W N a c) (hn : K ≠ N) (u v : Value) : Two2 ((W.setCell ⟨K, 0, none⟩ u).setCell ⟨K, 1, none⟩ v) N a c := by
  have o : ∀ {Y : World} {i j : Nat} {v u : Value}, Y.cell? ⟨N, j, none⟩ = some v → (Y.setCell ⟨K, i, none⟩ u).cell? ⟨N, j, none⟩ = some v := fun hc => by
    rw [World.cell?_setCell_other _ _ _ _ (fun e => by injection e with e1 _; exact hn e1)]; exact hc
  exact ⟨o (o h.c0), o (o h.c1), fun i => by simp only [World.frozen?_setCell]; exact h.fz i⟩
theorem Pt.put2 (h : Pt w W A D P L M 2 true left b lo nx sq) (hn : N ≠ A ∧ N ≠ D ∧ N ≠ P ∧ N ≠ L ∧ N ≠ M ∧ w.heap.size ≤ N) (u v : Value) : Pt w ((W.setCell ⟨N, 0, none⟩ u).setCell ⟨N, 1, none⟩ v) A D P L M 2 true left b lo nx sq := by
  obtain ⟨h1, h2, h3, h4, h5, h6⟩ := hn
  have o : ∀ {Y : World} {i j : Nat} {v u : Value}, Y.cell? ⟨A, j, none⟩ = some v → (Y.setCell ⟨N, i, none⟩ u).cell? ⟨A, j, none⟩ = some v := fun hc => by
    rw [World.cell?_setCell_other _ _ _ _ (fun e => by injection e with e1 _; exact h1 e1)]; exact hc
  obtain ⟨⟨c0, c1, c2, c3, fz⟩, ⟨kk, uses, las, hd, hk⟩, ne, bw, l'⟩ := h
  exact ⟨⟨o (o c0), o (o c1), o (o c2), o (o c3), fun i => by simp only [World.frozen?_setCell]; exact fz i⟩, ⟨kk, uses, las, dev_set (dev_set hd ⟨h2, h3, h4, h5⟩) ⟨h2, h3, h4, h5⟩, hk⟩, ne, (bw.setCell h6 _).setCell h6 _, l'⟩
/-- Within the loop. -/
structure Cr (w W : World) (A D P L M N K : Nat) (left : Int) (b : Nat) (lo nx sq : Int) : Prop where
  s : Pt w W A D P L M 2 true left b lo nx sq
  n : Two2 W N lo nx
  q : Two2 W K lo nx
  nn : N ≠ A ∧ N ≠ D ∧ N ≠ P ∧ N ≠ L ∧ N ≠ M ∧ w.heap.size ≤ N
  qn : K ≠ A ∧ K ≠ D ∧ K ≠ P ∧ K ≠ L ∧ K ≠ M ∧ w.heap.size ≤ K
  nk : N ≠ K
/-- Behind a Keep that was made, ahead of the law's own stores. -/
structure Cj (w W : World) (A D P L M N K : Nat) (left : Int) (b : Nat) (lo nx sq lo1 nx1 : Int) : Prop where
  s : Pt w W A D P L M 2 true left b lo nx sq
  n : Two2 W N lo1 nx1
  q : Two2 W K lo1 nx1
  nn : N ≠ A ∧ N ≠ D ∧ N ≠ P ∧ N ≠ L ∧ N ≠ M ∧ w.heap.size ≤ N
  qn : K ≠ A ∧ K ≠ D ∧ K ≠ P ∧ K ≠ L ∧ K ≠ M ∧ w.heap.size ≤ K
  nk : N ≠ K
theorem Cr.keep {K : Nat} (h : Cr w W A D P L M N K left b lo nx sq) (hs : Pt w X A D P L M 2 true left' b' lo2 nx2 sq2) (hf : Fr4 P L M A W X) : Cj w X A D P L M N K left' b' lo2 nx2 sq2 lo nx :=
  ⟨hs, h.n.fr4 hf ⟨h.nn.2.2.1, h.nn.2.2.2.1, h.nn.2.2.2.2.1, h.nn.1⟩, h.q.fr4 hf ⟨h.qn.2.2.1, h.qn.2.2.2.1, h.qn.2.2.2.2.1, h.qn.1⟩, h.nn, h.qn, h.nk⟩
theorem Cr.below {K : Nat} (h : Cr w W A D P L M N K left b lo nx sq) (hb : Below W.heap.size W X) : Cr w X A D P L M N K left b lo nx sq := ⟨h.s.below hb, h.n.below hb, h.q.below hb, h.nn, h.qn, h.nk⟩
theorem Cj.same {K : Nat} (h : Cj w W A D P L M N K left b lo nx sq lo nx) : Cr w W A D P L M N K left b lo nx sq := ⟨h.s, h.n, h.q, h.nn, h.qn, h.nk⟩
theorem Cj.put {K : Nat} (h : Cj w W A D P L M N K left b lo nx sq a c) :
    Cr w ((((W.setCell ⟨N, 0, none⟩ (.int .i64 lo)).setCell ⟨N, 1, none⟩ (.int .i64 nx)).setCell ⟨K, 0, none⟩ (.int .i64 lo)).setCell ⟨K, 1, none⟩ (.int .i64 nx)) A D P L M N K left b lo nx sq :=
  ⟨(h.s.put2 h.nn _ _).put2 h.qn _ _, (h.n.put lo nx).other (Ne.symm h.nk) _ _, (h.q.other h.nk _ _).put lo nx, h.nn, h.qn, h.nk⟩
/-- Behind the loop: the device may have lost its power. -/
structure Ce (w W : World) (D P L M N K : Nat) (lo nx sq lo2 nx2 sq2 : Int) : Prop where
  d : Fell W D P L M (sq, 0, nx, lo, 0) (sq2, 0, nx2, lo2, 0)
  bw : Below w.heap.size w W
  n : Two2 W N lo nx
  q : Two2 W K lo2 nx2
  lo' : w.heap.size ≤ P ∧ w.heap.size ≤ L ∧ w.heap.size ≤ M
  nn : N ≠ D ∧ N ≠ P ∧ N ≠ L ∧ N ≠ M ∧ w.heap.size ≤ N
  qn : K ≠ D ∧ K ≠ P ∧ K ≠ L ∧ K ≠ M ∧ w.heap.size ≤ K
  nk : N ≠ K
theorem Cr.ends {K : Nat} (h : Cr w W A D P L M N K left b lo nx sq) : Ce w W D P L M N K lo nx sq lo nx sq :=
  ⟨Live.fell (show Live W D P L M left b (sq, 0, nx, lo, 0) from h.s.l), h.s.bw, h.n, h.q, ⟨h.s.lo'.1, h.s.lo'.2.1, h.s.lo'.2.2.1⟩, h.nn.2, h.qn.2, h.nk⟩
theorem Cr.fall {K : Nat} (h : Cr w W A D P L M N K left b lo nx sq) (hd : Fell X D P L M (sq, 0, nx, lo, 0) (sq2, 0, nx2, lo2, 0)) (hf : Fr4 P L M A W X) :
    Two2 X N lo nx ∧ Two2 X K lo nx ∧ Ce w ((X.setCell ⟨K, 0, none⟩ (.int .i64 lo2)).setCell ⟨K, 1, none⟩ (.int .i64 nx2)) D P L M N K lo nx sq lo2 nx2 sq2 := by
  have h1 := h.n.fr4 hf ⟨h.nn.2.2.1, h.nn.2.2.2.1, h.nn.2.2.2.2.1, h.nn.1⟩
  have h2 := h.q.fr4 hf ⟨h.qn.2.2.1, h.qn.2.2.2.1, h.qn.2.2.2.2.1, h.qn.1⟩
  have hk : Keeps K (max D (max P (max L M)) + 1) (fun Y => Fell Y D P L M (sq, 0, nx, lo, 0) (sq2, 0, nx2, lo2, 0)) := fell_keeps ⟨h.qn.2.1, h.qn.2.2.1, h.qn.2.2.2.1, h.qn.2.2.2.2.1⟩ ⟨by omega, by omega, by omega, by omega⟩
  exact ⟨h1, h2, hk.set _ _ _ _ (.inl rfl) (hk.set _ _ _ _ (.inl rfl) hd), ((h.s.bw.trans (hf.below h.s.bw.size h.s.lo')).setCell h.qn.2.2.2.2.2 _).setCell h.qn.2.2.2.2.2 _,
    h1.other (Ne.symm h.nk) _ _, h2.put lo2 nx2, ⟨h.s.lo'.1, h.s.lo'.2.1, h.s.lo'.2.2.1⟩, h.nn.2, h.qn.2, h.nk⟩
/-- Behind the crash. -/
structure Cu (w W : World) (D P L M N K : Nat) (lo nx lo2 nx2 : Int) : Prop where
  bw : Below w.heap.size w W
  n : Two2 W N lo nx
  q : Two2 W K lo2 nx2
theorem Cu.below {K : Nat} (h : Cu w W D P L M N K lo nx lo2 nx2) (hb : Below W.heap.size W X) : Cu w X D P L M N K lo nx lo2 nx2 := ⟨h.bw.trans (hb.mono h.bw.size), h.n.below hb, h.q.below hb⟩
theorem Two2.fr3 (h : Two2 W N a c) (hf : Dv.Fr3 P L M W X) (hn : N ≠ P ∧ N ≠ L ∧ N ≠ M) : Two2 X N a c :=
  ⟨hf.cell h.c0 hn.1 hn.2.1 hn.2.2, hf.cell h.c1 hn.1 hn.2.1 hn.2.2, fun i => (World.frozen?_of_block (a := ⟨N, i, none⟩) (hf.block N (blk_of h.c0) hn.1 hn.2.1 hn.2.2)).trans (h.fz i)⟩
theorem Ce.crash {K : Nat} (h : Ce w W D P L M N K lo nx sq lo2 nx2 sq2) (hf : Dv.Fr3 P L M W X) : Cu w X D P L M N K lo nx lo2 nx2 :=
  ⟨h.bw.trans (hf.below h.bw.size h.lo'.1 h.lo'.2.1 h.lo'.2.2), h.n.fr3 hf ⟨h.nn.2.1, h.nn.2.2.1, h.nn.2.2.2.1⟩, h.q.fr3 hf ⟨h.qn.2.1, h.qn.2.2.1, h.qn.2.2.2.1⟩⟩
theorem ints_in3 {ka : Option Addr} {ks : List Int} (h : IntsAt w ka ks) (hb : Below w.heap.size w W) (hL : w.heap.size ≤ L) : Dv.IntsIn W ka L ks := by
  rcases h with rfl | ⟨b, off, e, h⟩
  · exact .inl rfl
  · by_cases h0 : ks.length = 0
    · exact .inl (List.length_eq_zero_iff.1 h0)
    · have hlt := blk_of (h 0 (by omega))
      refine .inr ⟨b, off, e, ?_, fun i hi => (hb.cell (p := ⟨b, off + i, none⟩) hlt).trans (h i hi)⟩
      exact fun e2 => absurd (Nat.lt_of_lt_of_le hlt hL) (by rw [e2]; exact Nat.lt_irrefl _)
theorem cr_new (h : Pt w W A D P L M 2 true left b 0 0 sq) (T : TypeId) : Cr w ((W.alloc (.cells #[.int .i64 0, .int .i64 0] T)).alloc (.cells #[.int .i64 0, .int .i64 0] T)) A D P L M W.heap.size (W.heap.size + 1) left b 0 0 sq := by
  have hl := h.l.lts
  have hA : A < W.heap.size := blk_of h.m.c0
  have hbs := h.bw.size
  have hs : (W.alloc (.cells #[.int .i64 0, .int .i64 0] T)).heap.size = W.heap.size + 1 := World.size_alloc _ _
  have hb1 : Below W.heap.size W (W.alloc (.cells #[.int .i64 0, .int .i64 0] T)) := (Below.refl _ _).alloc (Nat.le_refl _) _
  have hb2 : Below (W.alloc (.cells #[.int .i64 0, .int .i64 0] T)).heap.size (W.alloc (.cells #[.int .i64 0, .int .i64 0] T)) ((W.alloc (.cells #[.int .i64 0, .int .i64 0] T)).alloc (.cells #[.int .i64 0, .int .i64 0] T)) := (Below.refl _ _).alloc (Nat.le_refl _) _
  have h1 : Two2 (W.alloc (.cells #[.int .i64 0, .int .i64 0] T)) W.heap.size 0 0 := ⟨new_h rfl rfl, new_h rfl rfl, fun _ => World.frozen?_alloc_at _ _ _ _ rfl⟩
  refine ⟨(h.below hb1).below hb2, h1.below hb2, ⟨new_h hs.symm rfl, new_h hs.symm rfl, fun _ => World.frozen?_alloc_at _ _ _ _ hs.symm⟩, by omega, by omega, by omega⟩
end
set_option maxRecDepth 100000 in
set_option maxHeartbeats 16000000 in
theorem pointCrashes_walk (la : Option Addr) (l : List (Int × Int)) (lc : Nat) (arm : Int) (ka : Option Addr) (ks : List Int) (kc : Nat) (w : World) (hn : l.length ≤ maxLen) (hI : PtsAt w la l) (ha : 0 ≤ arm ∧ arm ≤ 255)
    (hkn : ks.length ≤ maxLen) (hkw : ∀ z ∈ ks, (Lit.int .i64 z).wf = true) (hK : IntsAt w ka ks) (ht : Tab w) :
    Calls Tryd.prog 5 #[.slice la l.length lc, .int .u8 arm, .slice ka ks.length kc] w fun x w' => x = .returned (.bool true) ∧ Below w.heap.size w w' := by
  unfold maxLen at hn hkn
  have KA := Lib.hid (fun W hT => awake19_any W hT)
  have HT := Lib.hid ht
  have HI := Lib.hid hI
  have HKI := Lib.hid hK
  have HKW := Lib.hid hkw
  clear ht hI hK hkw
  by_cases h1 : (l.length : Int) ≤ 30
  · by_cases h2 : (ks.length : Int) ≤ 40
    · have KN := Lib.hid new19
      have KF := Lib.hid (fun W D P L M (h : Dv.DevAt W D P L M 2 0 false 0 false 0 (List.replicate 2 Dv.blank64) (fun _ => none)) (hw : Below w.heap.size w W) hlo => (show Calls _ _ _ _ (FmYes w D P L M 2) from format_any 2 (by omega) h HT.out hw hlo))
      have hj : 0 ≤ arm.tmod 30 ∧ arm.tmod 30 < 30 := by rw [Int.tmod_eq_emod_of_nonneg ha.1]; omega
      have hj2 : arm.tmod 30 = arm % 30 := Int.tmod_eq_emod_of_nonneg ha.1
      have hk2 : ks.length ≤ 1000 := by omega
      go_enter Tryd.func5, Tryd.ntmps5
      go_wp2_with fail
      refine (KA.out _ HT.out).mono ?_
      rintro x w1 ⟨rfl, hb⟩
      have B1 := Lib.hid hb
      clear hb KA
      have hs1 := B1.out.size
      go_wp2_with fail
      refine (KN.out _).mono ?_
      rintro x w2 ⟨rfl, hd, hb⟩
      have K1 := Lib.hid (KF.out _ _ _ _ _ hd (B1.out.trans (hb.mono hs1)) ⟨hs1, Nat.le_trans hs1 (Nat.le_succ _), Nat.le_trans hs1 (Nat.le_trans (Nat.le_succ _) (Nat.le_succ _))⟩)
      clear hd hb KN KF hs1 B1
      generalize w1.heap.size + 1 + 1 + 1 = D at *
      generalize w1.heap.size + 1 + 1 = M at *
      generalize w1.heap.size + 1 = L at *
      generalize w1.heap.size = P at *
      go_wp2_with fail
      refine K1.out.mono ?_
      rintro x w3 ⟨A, rfl, hP⟩
      have P3 := Lib.hid hP
      clear hP K1
      have K3 := Lib.hid (pt_arm P3.out (arm % 30) (by omega))
      go_wp2_with fail
      refine K3.out.mono ?_
      rintro x w4 ⟨rfl, hP⟩
      have S5 := Lib.hid (cr_new hP 34)
      have hj0 : 0 ≤ arm % 30 ∧ arm % 30 ≤ 30 := by omega
      clear hP K3 P3 hj hj2 ha
      generalize arm % 30 = J at *
      go_upto_region 9 with fail
      generalize (w4.alloc (.cells #[.int .i64 0, .int .i64 0] 34)).alloc (.cells #[.int .i64 0, .int .i64 0] 34) = Y at *
      generalize w4.heap.size + 1 = K at *
      generalize w4.heap.size = N at *
      go_wp2
      go_loopw [12] (fun iv wr => ∃ (k : Nat) (lo nx sq left : Int) (b : Nat), k ≤ l.length ∧ iv = .int .i64 k ∧ b ≤ k + 1 ∧ sq ≤ k + 1 ∧ (0 ≤ left ∧ left ≤ 30) ∧ Hid (Cr w wr A D P L M N K left b lo nx sq)) (fun iv _ => l.length - (intOf iv).toNat)
      case atStart => exact ⟨0, 0, 0, 1, J, 1, Nat.zero_le _, rfl, by omega, by omega, hj0, S5⟩
      case round =>
        obtain ⟨k, lo, nx, sq, left, b, hkl, rfl, hb, hsq, hlf, HK⟩ := hrel
        rename World => wa
        clear S5 hj0
        by_cases hlt : k < l.length
        · have hb1 : b ≤ 1000 := by omega
          have hsq1 : sq ≤ 1000 := by omega
          obtain ⟨bb, off, rfl, e0, e1⟩ : ∃ bb off, la = some ⟨bb, off, none⟩ ∧ wa.cell? ⟨bb, off + k * 2 + 0, none⟩ = some (.int .i64 (l.getD k noPt).1) ∧ wa.cell? ⟨bb, off + k * 2 + 1, none⟩ = some (.int .i64 (l.getD k noPt).2) := by
            rcases HI.out.below HK.out.s.bw with rfl | ⟨bb, off, e, h⟩
            · simp at hlt
            · exact ⟨bb, off, e, h k hlt⟩
          have hbb : bb < w.heap.size := by
            rcases HI.out with rfl | ⟨bb2, off2, e, h⟩
            · simp at hlt
            · injection e with e; injection e with e1 e2; rw [e1]; exact blk_of (h k hlt).1
          have hk0 : (k : Int) < (l.length : Int) := by omega
          generalize l.getD k noPt = q at *
          obtain ⟨a, c⟩ := q
          simp only at e0 e1
          rw [Nat.add_zero] at e0
          have LO := HK.out.s.lo'
          have hne : bb ≠ P ∧ bb ≠ L ∧ bb ≠ M ∧ bb ≠ A := ⟨by omega, by omega, by omega, by omega⟩
          have hneN : N ≠ bb := by have := HK.out.nn.2.2.2.2.2; omega
          have hneK : K ≠ bb := by have := HK.out.qn.2.2.2.2.2; omega
          have HNE := Lib.hid hne
          clear LO hne
          by_cases hA1 : a < lo
          · have KK := Lib.hid (pt_low HK.out.s a c (.inl hA1))
            go_wp2_with fail
            refine KK.out.mono ?_
            rintro x w6 ⟨rfl, hs6, hf6⟩
            have SK := Lib.hid (HK.out.keep hs6 hf6).same
            clear hs6 hf6 KK HK e0 e1
            go_wp2
            go_roundw
            case rel => exact ⟨k + 1, lo, nx, sq, left, b, by omega, by go_num, by omega, by omega, hlf, SK⟩
            case measure => simp [intOf]; omega
          · by_cases hA2 : c < nx
            · have KK := Lib.hid (pt_low HK.out.s a c (.inr hA2))
              go_wp2_with fail
              refine KK.out.mono ?_
              rintro x w6 ⟨rfl, hs6, hf6⟩
              have SK := Lib.hid (HK.out.keep hs6 hf6).same
              clear hs6 hf6 KK HK e0 e1
              go_wp2
              go_roundw
              case rel => exact ⟨k + 1, lo, nx, sq, left, b, by omega, by go_num, by omega, by omega, hlf, SK⟩
              case measure => simp [intOf]; omega
            · by_cases hS : (0 ≤ c ∧ c ≤ 4611686018427387903) ∧ (0 ≤ a ∧ a ≤ 4611686018427387903)
              · obtain ⟨hS2, hS1⟩ := hS
                by_cases hE : a = lo ∧ c = nx
                · obtain ⟨rfl, rfl⟩ := hE
                  have KK := Lib.hid (pt_same HK.out.s)
                  go_wp2_with fail
                  refine KK.out.mono ?_
                  rintro x w6 ⟨rfl, hb6⟩
                  have hs6 := HK.out.s.below hb6
                  have hf6 : Fr4 P L M A wa w6 := .of_below hb6
                  clear hb6
                  have J6 := HK.out.keep hs6 hf6
                  have f0 := hf6.cell (p := ⟨bb, off + k * 2, none⟩) e0 HNE.out
                  have f1 := hf6.cell (p := ⟨bb, off + k * 2 + 1, none⟩) e1 HNE.out
                  have SK := Lib.hid J6.put
                  have hnk := HK.out.nk
                  obtain ⟨n0, n1, nf⟩ := J6.n
                  obtain ⟨k0, k1, kf⟩ := J6.q
                  clear hs6 hf6 J6 KK HK e0 e1
                  go_upto_region 16 with fail
                  generalize (((w6.setCell ⟨N, 0, none⟩ (.int .i64 a)).setCell ⟨N, 1, none⟩ (.int .i64 c)).setCell ⟨K, 0, none⟩ (.int .i64 a)).setCell ⟨K, 1, none⟩ (.int .i64 c) = V at *
                  clear f0 f1 n0 n1 nf k0 k1 kf
                  go_wp2
                  go_roundw
                  case rel => exact ⟨k + 1, a, c, sq, left, b, by omega, by go_num, by omega, by omega, by exact hlf, SK⟩
                  case measure => simp [intOf]; omega
                · have HE := Lib.hid hE
                  clear hE
                  by_cases hl1 : 1 < left
                  · have KK := Lib.hid (pt_yes HK.out.s HT.out (by omega) hb1 hsq1 (fun _ => ⟨hl1, by omega⟩) a c hA1 hA2 HE.out ⟨hS2, hS1⟩)
                    go_wp2_with fail
                    refine KK.out.mono ?_
                    rintro x w6 ⟨rfl, hs6, hf6⟩
                    have J6 := HK.out.keep hs6 hf6
                    have f0 := hf6.cell (p := ⟨bb, off + k * 2, none⟩) e0 HNE.out
                    have f1 := hf6.cell (p := ⟨bb, off + k * 2 + 1, none⟩) e1 HNE.out
                    have SK := Lib.hid J6.put
                    have hnk := HK.out.nk
                    obtain ⟨n0, n1, nf⟩ := J6.n
                    obtain ⟨k0, k1, kf⟩ := J6.q
                    clear hs6 hf6 J6 KK HK e0 e1
                    go_upto_region 16 with fail
                    generalize (((w6.setCell ⟨N, 0, none⟩ (.int .i64 a)).setCell ⟨N, 1, none⟩ (.int .i64 c)).setCell ⟨K, 0, none⟩ (.int .i64 a)).setCell ⟨K, 1, none⟩ (.int .i64 c) = V at *
                    clear f0 f1 n0 n1 nf k0 k1 kf
                    go_wp2
                    go_roundw
                    case rel => exact ⟨k + 1, a, c, sq + 1, _, b + 1, by omega, by go_num, by omega, by omega, by unfold Dv.nl; simp; omega, SK⟩
                    case measure => simp [intOf]; omega
                  · have KK := Lib.hid (pt_off HK.out.s HT.out hb1 hsq1 (by omega) a c hA1 hA2 HE.out ⟨hS2, hS1⟩)
                    go_wp2_with fail
                    refine KK.out.mono ?_
                    rintro x w6 ⟨rfl, hd6, hf6⟩
                    have f0 := hf6.cell (p := ⟨bb, off + k * 2, none⟩) e0 HNE.out
                    have f1 := hf6.cell (p := ⟨bb, off + k * 2 + 1, none⟩) e1 HNE.out
                    obtain ⟨⟨n0, n1, nf⟩, ⟨k0, k1, kf⟩, hce⟩ := HK.out.fall hd6 hf6
                    have CE := Lib.hid hce
                    clear hd6 hf6 hce KK HK e0 e1
                    go_upto_region 18 with fail
                    generalize (w6.setCell ⟨K, 0, none⟩ (.int .i64 a)).setCell ⟨K, 1, none⟩ (.int .i64 c) = V at *
                    clear f0 f1 n0 n1 nf k0 k1 kf
                    have KX := Lib.hid (c_crash CE.out.d ka ks kc hk2 HKW.out (ints_in3 HKI.out CE.out.bw CE.out.lo'.2.1))
                    go_wp2_with fail
                    refine KX.out.mono ?_
                    rintro x w7 ⟨rfl, hu7, hf7⟩
                    have C7 := Lib.hid (CE.out.crash hf7)
                    have KO := Lib.hid (p_open hu7 (HT.out.below C7.out.bw))
                    clear hu7 hf7 KX CE
                    go_wp2_with fail
                    refine KO.out.mono ?_
                    rintro x w8 (⟨A2, hA2, rfl, hm8, hb8⟩ | ⟨A2, hA2, rfl, hm8, hb8⟩)
                    · have S8 := Lib.hid (C7.out.below hb8)
                      have M8 := Lib.hid hm8
                      clear hm8 hb8 hA2 KO C7
                      have n0 := S8.out.n.c0
                      have n1 := S8.out.n.c1
                      have q0 := S8.out.q.c0
                      have q1 := S8.out.q.c1
                      have K2 := Lib.hid (fun X (hX : Below w8.heap.size w8 X) => point_any (M8.out.below hX))
                      go_upto_region 20 with fail
                      refine wp_region_held_drew (S := (fun w' => w'.cell? ⟨N, 0, none⟩ = some (.int .i64 lo) ∧ w'.cell? ⟨N, 1, none⟩ = some (.int .i64 nx) ∧ w'.cell? ⟨K, 0, none⟩ = some (.int .i64 a) ∧ w'.cell? ⟨K, 1, none⟩ = some (.int .i64 c))) (by kernel_rfl) ?_ (fun hHeld => ?_)
                      · (try dsimp only); go_keep
                      refine wpAnyH_take (i := 0) (oi := { dst := some 80, op := Op.move (Operand.tmp 9), type := 30, pos := "law.go:95", after := #[], guard := none }) (v := ?_) rfl (by kernel_rfl) (by kernel_rfl) (by kernel_rfl) (fun _ _ _ h => h) (Or.inl ⟨by rfl, ?_⟩) (by assumption) ?_
                      rotate_left 1
                      · (intro w' hSw; (try dsimp only at hSw); go_simp; try (with_reducible rfl))
                      try simp only [Act.put, List.setIfInBounds_toArray, List.set_cons_zero, List.set_cons_succ]
                      refine wpAnyH_take (i := 1) (oi := { dst := some 81, op := Op.binOp BinOp.eql 30 (Operand.tmp 80) (Operand.const (Value.int IntKind.i64 0)) 30, type := 4, pos := "law.go:95", after := #[{ on := 0, ground := Ground.data }], guard := none }) (v := ?_) rfl (by kernel_rfl) (by kernel_rfl) (by kernel_rfl) (fun _ _ _ h => h) (Or.inl ⟨by rfl, ?_⟩) (by assumption) ?_
                      rotate_left 1
                      · (intro w' hSw; (try dsimp only at hSw); go_simp; try (with_reducible rfl))
                      try simp only [Act.put, List.setIfInBounds_toArray, List.set_cons_zero, List.set_cons_succ]
                      refine wpAnyH_take (i := 2) (oi := { dst := some 82, op := Op.move (Operand.tmp 81), type := 4, pos := "law.go:95", after := #[{ on := 1, ground := Ground.data }], guard := none }) (v := ?_) rfl (by kernel_rfl) (by kernel_rfl) (by kernel_rfl) (fun _ _ _ h => h) (Or.inl ⟨by rfl, ?_⟩) (by assumption) ?_
                      rotate_left 1
                      · (intro w' hSw; (try dsimp only at hSw); go_simp; try (with_reducible rfl))
                      try simp only [Act.put, List.setIfInBounds_toArray, List.set_cons_zero, List.set_cons_succ]
                      refine wpAnyH_take (i := 3) (oi := { dst := some 83, op := Op.move (Operand.tmp 14), type := 29, pos := "law.go:95", after := #[{ on := 2, ground := Ground.guard }], guard := some (2, true) }) (v := ?_) rfl (by kernel_rfl) (by kernel_rfl) (by kernel_rfl) (fun _ _ _ h => h) (Or.inl ⟨by rfl, ?_⟩) (by assumption) ?_
                      rotate_left 1
                      · (intro w' hSw; (try dsimp only at hSw); go_simp; try (with_reducible rfl))
                      try simp only [Act.put, List.setIfInBounds_toArray, List.set_cons_zero, List.set_cons_succ]
                      refine wpAnyH_take (i := 4) (oi := { dst := some 84, op := Op.binOp BinOp.neq 29 (Operand.tmp 83) (Operand.const (Value.pointer none)) 29, type := 4, pos := "law.go:95", after := #[{ on := 3, ground := Ground.data }, { on := 2, ground := Ground.guard }], guard := some (2, true) }) (v := ?_) rfl (by kernel_rfl) (by kernel_rfl) (by kernel_rfl) (fun _ _ _ h => h) (Or.inl ⟨by rfl, ?_⟩) (by assumption) ?_
                      rotate_left 1
                      · (intro w' hSw; (try dsimp only at hSw); go_simp; try (with_reducible rfl))
                      try simp only [Act.put, List.setIfInBounds_toArray, List.set_cons_zero, List.set_cons_succ]
                      refine wpAnyH_take (i := 5) (oi := { dst := some 85, op := Op.pick (Operand.tmp 82) (Operand.tmp 84) (Operand.const (Value.bool false)), type := 4, pos := "law.go:95", after := #[{ on := 2, ground := Ground.data }, { on := 4, ground := Ground.data }], guard := none }) (v := ?_) rfl (by kernel_rfl) (by kernel_rfl) (by kernel_rfl) (fun _ _ _ h => h) (Or.inl ⟨by rfl, ?_⟩) (by assumption) ?_
                      rotate_left 1
                      · (intro w' hSw; (try dsimp only at hSw); go_simp; try (with_reducible rfl))
                      try simp only [Act.put, List.setIfInBounds_toArray, List.set_cons_zero, List.set_cons_succ]
                      refine wpAnyH_take (i := 6) (oi := { dst := some 86, op := Op.move (Operand.tmp 85), type := 4, pos := "law.go:95", after := #[{ on := 5, ground := Ground.data }, { on := 2, ground := Ground.chain }], guard := none }) (v := ?_) rfl (by kernel_rfl) (by kernel_rfl) (by kernel_rfl) (fun _ _ _ h => h) (Or.inl ⟨by rfl, ?_⟩) (by assumption) ?_
                      rotate_left 1
                      · (intro w' hSw; (try dsimp only at hSw); go_simp; try (with_reducible rfl))
                      try simp only [Act.put, List.setIfInBounds_toArray, List.set_cons_zero, List.set_cons_succ]
                      refine wpAnyH_take (i := 7) (oi := { dst := some 87, op := Op.move (Operand.tmp 14), type := 29, pos := "law.go:95", after := #[{ on := 6, ground := Ground.guard }], guard := some (6, true) }) (v := ?_) rfl (by kernel_rfl) (by kernel_rfl) (by kernel_rfl) (fun _ _ _ h => h) (Or.inl ⟨by rfl, ?_⟩) (by assumption) ?_
                      rotate_left 1
                      · (intro w' hSw; (try dsimp only at hSw); go_simp; try (with_reducible rfl))
                      try simp only [Act.put, List.setIfInBounds_toArray, List.set_cons_zero, List.set_cons_succ]
                      refine wpAnyH_take (i := 9) (oi := { dst := some 89, op := Op.load 34 (Operand.tmp 10), type := 34, pos := "law.go:95", after := #[{ on := 6, ground := Ground.guard }], guard := some (6, true) }) (v := ?_) rfl (by kernel_rfl) (by kernel_rfl) (by kernel_rfl) (fun _ _ _ h => h) (Or.inl ⟨by rfl, ?_⟩) (by assumption) ?_
                      rotate_left 1
                      · (intro w' hSw; (try dsimp only at hSw); go_simp; try (with_reducible rfl))
                      try simp only [Act.put, List.setIfInBounds_toArray, List.set_cons_zero, List.set_cons_succ]
                      refine wpAnyH_ready (rs := [8]) (by kernel_rfl) (by simp) ?_
                      refine AllReadyH.cons rfl (fun K hK => ?_) AllReadyH.nil
                      go_simp
                      go_wp2_with ((go_at_call 11; refine (K2.out _ (Below.refl _ _).drew).mono ?_; rintro x w10 ⟨rfl, hb10⟩; have hb11 := (Below.refl w8.heap.size w8).drew.trans hb10; have r0 := keep_h hb11 n0; have r1 := keep_h hb11 n1; have r2 := keep_h hb11 q0; have r3 := keep_h hb11 q1))
                      refine hK.out _ _ ?_ (fun hHeld => ?_)
                      · (try dsimp only); go_keep
                      clear hK K
                      refine wpAnyH_take (i := 10) (oi := { dst := some 90, op := Op.binOp BinOp.eql 34 (Operand.tmp 88) (Operand.tmp 89) 34, type := 4, pos := "law.go:95", after := #[{ on := 8, ground := Ground.data }, { on := 9, ground := Ground.data }, { on := 6, ground := Ground.guard }], guard := some (6, true) }) (v := ?_) rfl (by kernel_rfl) (by kernel_rfl) (by kernel_rfl) (fun _ _ _ h => h) (Or.inl ⟨by rfl, ?_⟩) (by assumption) ?_
                      rotate_left 1
                      · (intro w' hSw; (try dsimp only at hSw); go_simp; try (with_reducible rfl))
                      try simp only [Act.put, List.setIfInBounds_toArray, List.set_cons_zero, List.set_cons_succ]
                      refine wpAnyH_take (i := 11) (oi := { dst := some 91, op := Op.move (Operand.tmp 90), type := 4, pos := "law.go:95", after := #[{ on := 10, ground := Ground.data }, { on := 8, ground := Ground.chain }, { on := 6, ground := Ground.guard }], guard := some (6, true) }) (v := ?_) rfl (by kernel_rfl) (by kernel_rfl) (by kernel_rfl) (fun _ _ _ h => h) (Or.inl ⟨by rfl, ?_⟩) (by assumption) ?_
                      rotate_left 1
                      · (intro w' hSw; (try dsimp only at hSw); go_simp; try (with_reducible rfl))
                      try simp only [Act.put, List.setIfInBounds_toArray, List.set_cons_zero, List.set_cons_succ]
                      refine wpAnyH_take (i := 12) (oi := { dst := some 92, op := Op.move (Operand.tmp 14), type := 29, pos := "law.go:95", after := #[{ on := 11, ground := Ground.guard }], guard := some (11, false) }) (v := undef) rfl (by kernel_rfl) (by kernel_rfl) (by kernel_rfl) (fun _ _ _ h => h) (Or.inr ⟨by rfl, rfl⟩) (by assumption) ?_
                      try simp only [Act.put, List.setIfInBounds_toArray, List.set_cons_zero, List.set_cons_succ]
                      refine wpAnyH_take (i := 13) (oi := { dst := some 93, op := Op.call { callee := Callee.value (Operand.func 11), args := #[Operand.tmp 92], argTypes := #[29] }, type := 34, pos := "law.go:95", after := #[{ on := 12, ground := Ground.data }, { on := 11, ground := Ground.chain }, { on := 11, ground := Ground.guard }], guard := some (11, false) }) (v := undef) rfl (by kernel_rfl) (by kernel_rfl) (by kernel_rfl) (fun _ _ _ h => h) (Or.inr ⟨by rfl, rfl⟩) (by assumption) ?_
                      try simp only [Act.put, List.setIfInBounds_toArray, List.set_cons_zero, List.set_cons_succ]
                      refine wpAnyH_take (i := 14) (oi := { dst := some 94, op := Op.load 34 (Operand.tmp 11), type := 34, pos := "law.go:95", after := #[{ on := 11, ground := Ground.guard }], guard := some (11, false) }) (v := undef) rfl (by kernel_rfl) (by kernel_rfl) (by kernel_rfl) (fun _ _ _ h => h) (Or.inr ⟨by rfl, rfl⟩) (by assumption) ?_
                      try simp only [Act.put, List.setIfInBounds_toArray, List.set_cons_zero, List.set_cons_succ]
                      refine wpAnyH_take (i := 15) (oi := { dst := some 95, op := Op.binOp BinOp.eql 34 (Operand.tmp 93) (Operand.tmp 94) 34, type := 4, pos := "law.go:95", after := #[{ on := 13, ground := Ground.data }, { on := 14, ground := Ground.data }, { on := 11, ground := Ground.guard }], guard := some (11, false) }) (v := undef) rfl (by kernel_rfl) (by kernel_rfl) (by kernel_rfl) (fun _ _ _ h => h) (Or.inr ⟨by rfl, rfl⟩) (by assumption) ?_
                      try simp only [Act.put, List.setIfInBounds_toArray, List.set_cons_zero, List.set_cons_succ]
                      refine wpAnyH_take (i := 16) (oi := { dst := some 96, op := Op.pick (Operand.tmp 91) (Operand.const (Value.bool true)) (Operand.tmp 95), type := 4, pos := "law.go:95", after := #[{ on := 11, ground := Ground.data }, { on := 15, ground := Ground.data }, { on := 6, ground := Ground.guard }], guard := some (6, true) }) (v := ?_) rfl (by kernel_rfl) (by kernel_rfl) (by kernel_rfl) (fun _ _ _ h => h) (Or.inl ⟨by rfl, ?_⟩) (by assumption) ?_
                      rotate_left 1
                      · (intro w' hSw; (try dsimp only at hSw); go_simp; try (with_reducible rfl))
                      try simp only [Act.put, List.setIfInBounds_toArray, List.set_cons_zero, List.set_cons_succ]
                      refine wpAnyH_take (i := 17) (oi := { dst := some 97, op := Op.pick (Operand.tmp 86) (Operand.tmp 96) (Operand.const (Value.bool false)), type := 4, pos := "law.go:95", after := #[{ on := 6, ground := Ground.data }, { on := 16, ground := Ground.data }], guard := none }) (v := ?_) rfl (by kernel_rfl) (by kernel_rfl) (by kernel_rfl) (fun _ _ _ h => h) (Or.inl ⟨by rfl, ?_⟩) (by assumption) ?_
                      rotate_left 1
                      · (intro w' hSw; (try dsimp only at hSw); go_simp; try (with_reducible rfl))
                      try simp only [Act.put, List.setIfInBounds_toArray, List.set_cons_zero, List.set_cons_succ]
                      refine wpAnyH_take (i := 18) (oi := { dst := some 6, op := Op.assign (Operand.tmp 97), type := 4, pos := "law.go:95", after := #[{ on := 17, ground := Ground.data }, { on := 13, ground := Ground.chain }, { on := 0, ground := Ground.phase }, { on := 1, ground := Ground.phase }, { on := 2, ground := Ground.phase }, { on := 3, ground := Ground.phase }, { on := 4, ground := Ground.phase }, { on := 5, ground := Ground.phase }, { on := 6, ground := Ground.phase }, { on := 7, ground := Ground.phase }, { on := 8, ground := Ground.phase }, { on := 9, ground := Ground.phase }, { on := 10, ground := Ground.phase }, { on := 11, ground := Ground.phase }, { on := 12, ground := Ground.phase }, { on := 13, ground := Ground.phase }, { on := 14, ground := Ground.phase }, { on := 15, ground := Ground.phase }, { on := 16, ground := Ground.phase }, { on := 17, ground := Ground.phase }], guard := none }) (v := ?_) rfl (by kernel_rfl) (by kernel_rfl) (by kernel_rfl) (fun _ _ _ h => h) (Or.inl ⟨by rfl, ?_⟩) (by assumption) ?_
                      rotate_left 1
                      · (intro w' hSw; (try dsimp only at hSw); go_simp; try (with_reducible rfl))
                      try simp only [Act.put, List.setIfInBounds_toArray, List.set_cons_zero, List.set_cons_succ]
                      refine wpAnyH_done (by kernel_rfl) ?_ _
                      have S9 := Lib.hid (S8.out.below hb11)
                      clear S8
                      go_wp2
                      exact bodyPost_ret (v := .bool true) (by simp [results, Tryd.results5, go_sem]) rfl ⟨rfl, S9.out.bw⟩
                    · have S8 := Lib.hid (C7.out.below hb8)
                      have M8 := Lib.hid hm8
                      clear hm8 hb8 hA2 KO C7
                      have n0 := S8.out.n.c0
                      have n1 := S8.out.n.c1
                      have q0 := S8.out.q.c0
                      have q1 := S8.out.q.c1
                      have K2 := Lib.hid (fun X (hX : Below w8.heap.size w8 X) => point_any (M8.out.below hX))
                      by_cases hq1 : a = lo
                      · subst hq1
                        by_cases hq2 : c = nx
                        · subst hq2
                          go_upto_region 20 with fail
                          refine wp_region_held_drew (S := (fun w' => w'.cell? ⟨N, 0, none⟩ = some (.int .i64 a) ∧ w'.cell? ⟨N, 1, none⟩ = some (.int .i64 c) ∧ w'.cell? ⟨K, 0, none⟩ = some (.int .i64 a) ∧ w'.cell? ⟨K, 1, none⟩ = some (.int .i64 c))) (by kernel_rfl) ?_ (fun hHeld => ?_)
                          · (try dsimp only); go_keep
                          refine wpAnyH_take (i := 0) (oi := { dst := some 80, op := Op.move (Operand.tmp 9), type := 30, pos := "law.go:95", after := #[], guard := none }) (v := ?_) rfl (by kernel_rfl) (by kernel_rfl) (by kernel_rfl) (fun _ _ _ h => h) (Or.inl ⟨by rfl, ?_⟩) (by assumption) ?_
                          rotate_left 1
                          · (intro w' hSw; (try dsimp only at hSw); go_simp; try (with_reducible rfl))
                          try simp only [Act.put, List.setIfInBounds_toArray, List.set_cons_zero, List.set_cons_succ]
                          refine wpAnyH_take (i := 1) (oi := { dst := some 81, op := Op.binOp BinOp.eql 30 (Operand.tmp 80) (Operand.const (Value.int IntKind.i64 0)) 30, type := 4, pos := "law.go:95", after := #[{ on := 0, ground := Ground.data }], guard := none }) (v := ?_) rfl (by kernel_rfl) (by kernel_rfl) (by kernel_rfl) (fun _ _ _ h => h) (Or.inl ⟨by rfl, ?_⟩) (by assumption) ?_
                          rotate_left 1
                          · (intro w' hSw; (try dsimp only at hSw); go_simp; try (with_reducible rfl))
                          try simp only [Act.put, List.setIfInBounds_toArray, List.set_cons_zero, List.set_cons_succ]
                          refine wpAnyH_take (i := 2) (oi := { dst := some 82, op := Op.move (Operand.tmp 81), type := 4, pos := "law.go:95", after := #[{ on := 1, ground := Ground.data }], guard := none }) (v := ?_) rfl (by kernel_rfl) (by kernel_rfl) (by kernel_rfl) (fun _ _ _ h => h) (Or.inl ⟨by rfl, ?_⟩) (by assumption) ?_
                          rotate_left 1
                          · (intro w' hSw; (try dsimp only at hSw); go_simp; try (with_reducible rfl))
                          try simp only [Act.put, List.setIfInBounds_toArray, List.set_cons_zero, List.set_cons_succ]
                          refine wpAnyH_take (i := 3) (oi := { dst := some 83, op := Op.move (Operand.tmp 14), type := 29, pos := "law.go:95", after := #[{ on := 2, ground := Ground.guard }], guard := some (2, true) }) (v := ?_) rfl (by kernel_rfl) (by kernel_rfl) (by kernel_rfl) (fun _ _ _ h => h) (Or.inl ⟨by rfl, ?_⟩) (by assumption) ?_
                          rotate_left 1
                          · (intro w' hSw; (try dsimp only at hSw); go_simp; try (with_reducible rfl))
                          try simp only [Act.put, List.setIfInBounds_toArray, List.set_cons_zero, List.set_cons_succ]
                          refine wpAnyH_take (i := 4) (oi := { dst := some 84, op := Op.binOp BinOp.neq 29 (Operand.tmp 83) (Operand.const (Value.pointer none)) 29, type := 4, pos := "law.go:95", after := #[{ on := 3, ground := Ground.data }, { on := 2, ground := Ground.guard }], guard := some (2, true) }) (v := ?_) rfl (by kernel_rfl) (by kernel_rfl) (by kernel_rfl) (fun _ _ _ h => h) (Or.inl ⟨by rfl, ?_⟩) (by assumption) ?_
                          rotate_left 1
                          · (intro w' hSw; (try dsimp only at hSw); go_simp; try (with_reducible rfl))
                          try simp only [Act.put, List.setIfInBounds_toArray, List.set_cons_zero, List.set_cons_succ]
                          refine wpAnyH_take (i := 5) (oi := { dst := some 85, op := Op.pick (Operand.tmp 82) (Operand.tmp 84) (Operand.const (Value.bool false)), type := 4, pos := "law.go:95", after := #[{ on := 2, ground := Ground.data }, { on := 4, ground := Ground.data }], guard := none }) (v := ?_) rfl (by kernel_rfl) (by kernel_rfl) (by kernel_rfl) (fun _ _ _ h => h) (Or.inl ⟨by rfl, ?_⟩) (by assumption) ?_
                          rotate_left 1
                          · (intro w' hSw; (try dsimp only at hSw); go_simp; try (with_reducible rfl))
                          try simp only [Act.put, List.setIfInBounds_toArray, List.set_cons_zero, List.set_cons_succ]
                          refine wpAnyH_take (i := 6) (oi := { dst := some 86, op := Op.move (Operand.tmp 85), type := 4, pos := "law.go:95", after := #[{ on := 5, ground := Ground.data }, { on := 2, ground := Ground.chain }], guard := none }) (v := ?_) rfl (by kernel_rfl) (by kernel_rfl) (by kernel_rfl) (fun _ _ _ h => h) (Or.inl ⟨by rfl, ?_⟩) (by assumption) ?_
                          rotate_left 1
                          · (intro w' hSw; (try dsimp only at hSw); go_simp; try (with_reducible rfl))
                          try simp only [Act.put, List.setIfInBounds_toArray, List.set_cons_zero, List.set_cons_succ]
                          refine wpAnyH_take (i := 7) (oi := { dst := some 87, op := Op.move (Operand.tmp 14), type := 29, pos := "law.go:95", after := #[{ on := 6, ground := Ground.guard }], guard := some (6, true) }) (v := ?_) rfl (by kernel_rfl) (by kernel_rfl) (by kernel_rfl) (fun _ _ _ h => h) (Or.inl ⟨by rfl, ?_⟩) (by assumption) ?_
                          rotate_left 1
                          · (intro w' hSw; (try dsimp only at hSw); go_simp; try (with_reducible rfl))
                          try simp only [Act.put, List.setIfInBounds_toArray, List.set_cons_zero, List.set_cons_succ]
                          refine wpAnyH_take (i := 9) (oi := { dst := some 89, op := Op.load 34 (Operand.tmp 10), type := 34, pos := "law.go:95", after := #[{ on := 6, ground := Ground.guard }], guard := some (6, true) }) (v := ?_) rfl (by kernel_rfl) (by kernel_rfl) (by kernel_rfl) (fun _ _ _ h => h) (Or.inl ⟨by rfl, ?_⟩) (by assumption) ?_
                          rotate_left 1
                          · (intro w' hSw; (try dsimp only at hSw); go_simp; try (with_reducible rfl))
                          try simp only [Act.put, List.setIfInBounds_toArray, List.set_cons_zero, List.set_cons_succ]
                          refine wpAnyH_ready (rs := [8]) (by kernel_rfl) (by simp) ?_
                          refine AllReadyH.cons rfl (fun K hK => ?_) AllReadyH.nil
                          go_simp
                          go_wp2_with ((go_at_call 11; refine (K2.out _ (Below.refl _ _).drew).mono ?_; rintro x w10 ⟨rfl, hb10⟩; have hb11 := (Below.refl w8.heap.size w8).drew.trans hb10; have r0 := keep_h hb11 n0; have r1 := keep_h hb11 n1; have r2 := keep_h hb11 q0; have r3 := keep_h hb11 q1))
                          refine hK.out _ _ ?_ (fun hHeld => ?_)
                          · (try dsimp only); go_keep
                          clear hK K
                          refine wpAnyH_take (i := 10) (oi := { dst := some 90, op := Op.binOp BinOp.eql 34 (Operand.tmp 88) (Operand.tmp 89) 34, type := 4, pos := "law.go:95", after := #[{ on := 8, ground := Ground.data }, { on := 9, ground := Ground.data }, { on := 6, ground := Ground.guard }], guard := some (6, true) }) (v := ?_) rfl (by kernel_rfl) (by kernel_rfl) (by kernel_rfl) (fun _ _ _ h => h) (Or.inl ⟨by rfl, ?_⟩) (by assumption) ?_
                          rotate_left 1
                          · (intro w' hSw; (try dsimp only at hSw); go_simp; try (with_reducible rfl))
                          try simp only [Act.put, List.setIfInBounds_toArray, List.set_cons_zero, List.set_cons_succ]
                          refine wpAnyH_take (i := 11) (oi := { dst := some 91, op := Op.move (Operand.tmp 90), type := 4, pos := "law.go:95", after := #[{ on := 10, ground := Ground.data }, { on := 8, ground := Ground.chain }, { on := 6, ground := Ground.guard }], guard := some (6, true) }) (v := ?_) rfl (by kernel_rfl) (by kernel_rfl) (by kernel_rfl) (fun _ _ _ h => h) (Or.inl ⟨by rfl, ?_⟩) (by assumption) ?_
                          rotate_left 1
                          · (intro w' hSw; (try dsimp only at hSw); go_simp; try (with_reducible rfl))
                          try simp only [Act.put, List.setIfInBounds_toArray, List.set_cons_zero, List.set_cons_succ]
                          refine wpAnyH_take (i := 12) (oi := { dst := some 92, op := Op.move (Operand.tmp 14), type := 29, pos := "law.go:95", after := #[{ on := 11, ground := Ground.guard }], guard := some (11, false) }) (v := undef) rfl (by kernel_rfl) (by kernel_rfl) (by kernel_rfl) (fun _ _ _ h => h) (Or.inr ⟨by rfl, rfl⟩) (by assumption) ?_
                          try simp only [Act.put, List.setIfInBounds_toArray, List.set_cons_zero, List.set_cons_succ]
                          refine wpAnyH_take (i := 13) (oi := { dst := some 93, op := Op.call { callee := Callee.value (Operand.func 11), args := #[Operand.tmp 92], argTypes := #[29] }, type := 34, pos := "law.go:95", after := #[{ on := 12, ground := Ground.data }, { on := 11, ground := Ground.chain }, { on := 11, ground := Ground.guard }], guard := some (11, false) }) (v := undef) rfl (by kernel_rfl) (by kernel_rfl) (by kernel_rfl) (fun _ _ _ h => h) (Or.inr ⟨by rfl, rfl⟩) (by assumption) ?_
                          try simp only [Act.put, List.setIfInBounds_toArray, List.set_cons_zero, List.set_cons_succ]
                          refine wpAnyH_take (i := 14) (oi := { dst := some 94, op := Op.load 34 (Operand.tmp 11), type := 34, pos := "law.go:95", after := #[{ on := 11, ground := Ground.guard }], guard := some (11, false) }) (v := undef) rfl (by kernel_rfl) (by kernel_rfl) (by kernel_rfl) (fun _ _ _ h => h) (Or.inr ⟨by rfl, rfl⟩) (by assumption) ?_
                          try simp only [Act.put, List.setIfInBounds_toArray, List.set_cons_zero, List.set_cons_succ]
                          refine wpAnyH_take (i := 15) (oi := { dst := some 95, op := Op.binOp BinOp.eql 34 (Operand.tmp 93) (Operand.tmp 94) 34, type := 4, pos := "law.go:95", after := #[{ on := 13, ground := Ground.data }, { on := 14, ground := Ground.data }, { on := 11, ground := Ground.guard }], guard := some (11, false) }) (v := undef) rfl (by kernel_rfl) (by kernel_rfl) (by kernel_rfl) (fun _ _ _ h => h) (Or.inr ⟨by rfl, rfl⟩) (by assumption) ?_
                          try simp only [Act.put, List.setIfInBounds_toArray, List.set_cons_zero, List.set_cons_succ]
                          refine wpAnyH_take (i := 16) (oi := { dst := some 96, op := Op.pick (Operand.tmp 91) (Operand.const (Value.bool true)) (Operand.tmp 95), type := 4, pos := "law.go:95", after := #[{ on := 11, ground := Ground.data }, { on := 15, ground := Ground.data }, { on := 6, ground := Ground.guard }], guard := some (6, true) }) (v := ?_) rfl (by kernel_rfl) (by kernel_rfl) (by kernel_rfl) (fun _ _ _ h => h) (Or.inl ⟨by rfl, ?_⟩) (by assumption) ?_
                          rotate_left 1
                          · (intro w' hSw; (try dsimp only at hSw); go_simp; try (with_reducible rfl))
                          try simp only [Act.put, List.setIfInBounds_toArray, List.set_cons_zero, List.set_cons_succ]
                          refine wpAnyH_take (i := 17) (oi := { dst := some 97, op := Op.pick (Operand.tmp 86) (Operand.tmp 96) (Operand.const (Value.bool false)), type := 4, pos := "law.go:95", after := #[{ on := 6, ground := Ground.data }, { on := 16, ground := Ground.data }], guard := none }) (v := ?_) rfl (by kernel_rfl) (by kernel_rfl) (by kernel_rfl) (fun _ _ _ h => h) (Or.inl ⟨by rfl, ?_⟩) (by assumption) ?_
                          rotate_left 1
                          · (intro w' hSw; (try dsimp only at hSw); go_simp; try (with_reducible rfl))
                          try simp only [Act.put, List.setIfInBounds_toArray, List.set_cons_zero, List.set_cons_succ]
                          refine wpAnyH_take (i := 18) (oi := { dst := some 6, op := Op.assign (Operand.tmp 97), type := 4, pos := "law.go:95", after := #[{ on := 17, ground := Ground.data }, { on := 13, ground := Ground.chain }, { on := 0, ground := Ground.phase }, { on := 1, ground := Ground.phase }, { on := 2, ground := Ground.phase }, { on := 3, ground := Ground.phase }, { on := 4, ground := Ground.phase }, { on := 5, ground := Ground.phase }, { on := 6, ground := Ground.phase }, { on := 7, ground := Ground.phase }, { on := 8, ground := Ground.phase }, { on := 9, ground := Ground.phase }, { on := 10, ground := Ground.phase }, { on := 11, ground := Ground.phase }, { on := 12, ground := Ground.phase }, { on := 13, ground := Ground.phase }, { on := 14, ground := Ground.phase }, { on := 15, ground := Ground.phase }, { on := 16, ground := Ground.phase }, { on := 17, ground := Ground.phase }], guard := none }) (v := ?_) rfl (by kernel_rfl) (by kernel_rfl) (by kernel_rfl) (fun _ _ _ h => h) (Or.inl ⟨by rfl, ?_⟩) (by assumption) ?_
                          rotate_left 1
                          · (intro w' hSw; (try dsimp only at hSw); go_simp; try (with_reducible rfl))
                          try simp only [Act.put, List.setIfInBounds_toArray, List.set_cons_zero, List.set_cons_succ]
                          refine wpAnyH_done (by kernel_rfl) ?_ _
                          have S9 := Lib.hid (S8.out.below hb11)
                          clear S8
                          go_wp2
                          exact bodyPost_ret (v := .bool true) (by simp [results, Tryd.results5, go_sem]) rfl ⟨rfl, S9.out.bw⟩
                        · go_upto_region 20 with fail
                          refine wp_region_held_drew (S := (fun w' => w'.cell? ⟨N, 0, none⟩ = some (.int .i64 a) ∧ w'.cell? ⟨N, 1, none⟩ = some (.int .i64 nx) ∧ w'.cell? ⟨K, 0, none⟩ = some (.int .i64 a) ∧ w'.cell? ⟨K, 1, none⟩ = some (.int .i64 c))) (by kernel_rfl) ?_ (fun hHeld => ?_)
                          · (try dsimp only); go_keep
                          refine wpAnyH_take (i := 0) (oi := { dst := some 80, op := Op.move (Operand.tmp 9), type := 30, pos := "law.go:95", after := #[], guard := none }) (v := ?_) rfl (by kernel_rfl) (by kernel_rfl) (by kernel_rfl) (fun _ _ _ h => h) (Or.inl ⟨by rfl, ?_⟩) (by assumption) ?_
                          rotate_left 1
                          · (intro w' hSw; (try dsimp only at hSw); go_simp; try (with_reducible rfl))
                          try simp only [Act.put, List.setIfInBounds_toArray, List.set_cons_zero, List.set_cons_succ]
                          refine wpAnyH_take (i := 1) (oi := { dst := some 81, op := Op.binOp BinOp.eql 30 (Operand.tmp 80) (Operand.const (Value.int IntKind.i64 0)) 30, type := 4, pos := "law.go:95", after := #[{ on := 0, ground := Ground.data }], guard := none }) (v := ?_) rfl (by kernel_rfl) (by kernel_rfl) (by kernel_rfl) (fun _ _ _ h => h) (Or.inl ⟨by rfl, ?_⟩) (by assumption) ?_
                          rotate_left 1
                          · (intro w' hSw; (try dsimp only at hSw); go_simp; try (with_reducible rfl))
                          try simp only [Act.put, List.setIfInBounds_toArray, List.set_cons_zero, List.set_cons_succ]
                          refine wpAnyH_take (i := 2) (oi := { dst := some 82, op := Op.move (Operand.tmp 81), type := 4, pos := "law.go:95", after := #[{ on := 1, ground := Ground.data }], guard := none }) (v := ?_) rfl (by kernel_rfl) (by kernel_rfl) (by kernel_rfl) (fun _ _ _ h => h) (Or.inl ⟨by rfl, ?_⟩) (by assumption) ?_
                          rotate_left 1
                          · (intro w' hSw; (try dsimp only at hSw); go_simp; try (with_reducible rfl))
                          try simp only [Act.put, List.setIfInBounds_toArray, List.set_cons_zero, List.set_cons_succ]
                          refine wpAnyH_take (i := 3) (oi := { dst := some 83, op := Op.move (Operand.tmp 14), type := 29, pos := "law.go:95", after := #[{ on := 2, ground := Ground.guard }], guard := some (2, true) }) (v := ?_) rfl (by kernel_rfl) (by kernel_rfl) (by kernel_rfl) (fun _ _ _ h => h) (Or.inl ⟨by rfl, ?_⟩) (by assumption) ?_
                          rotate_left 1
                          · (intro w' hSw; (try dsimp only at hSw); go_simp; try (with_reducible rfl))
                          try simp only [Act.put, List.setIfInBounds_toArray, List.set_cons_zero, List.set_cons_succ]
                          refine wpAnyH_take (i := 4) (oi := { dst := some 84, op := Op.binOp BinOp.neq 29 (Operand.tmp 83) (Operand.const (Value.pointer none)) 29, type := 4, pos := "law.go:95", after := #[{ on := 3, ground := Ground.data }, { on := 2, ground := Ground.guard }], guard := some (2, true) }) (v := ?_) rfl (by kernel_rfl) (by kernel_rfl) (by kernel_rfl) (fun _ _ _ h => h) (Or.inl ⟨by rfl, ?_⟩) (by assumption) ?_
                          rotate_left 1
                          · (intro w' hSw; (try dsimp only at hSw); go_simp; try (with_reducible rfl))
                          try simp only [Act.put, List.setIfInBounds_toArray, List.set_cons_zero, List.set_cons_succ]
                          refine wpAnyH_take (i := 5) (oi := { dst := some 85, op := Op.pick (Operand.tmp 82) (Operand.tmp 84) (Operand.const (Value.bool false)), type := 4, pos := "law.go:95", after := #[{ on := 2, ground := Ground.data }, { on := 4, ground := Ground.data }], guard := none }) (v := ?_) rfl (by kernel_rfl) (by kernel_rfl) (by kernel_rfl) (fun _ _ _ h => h) (Or.inl ⟨by rfl, ?_⟩) (by assumption) ?_
                          rotate_left 1
                          · (intro w' hSw; (try dsimp only at hSw); go_simp; try (with_reducible rfl))
                          try simp only [Act.put, List.setIfInBounds_toArray, List.set_cons_zero, List.set_cons_succ]
                          refine wpAnyH_take (i := 6) (oi := { dst := some 86, op := Op.move (Operand.tmp 85), type := 4, pos := "law.go:95", after := #[{ on := 5, ground := Ground.data }, { on := 2, ground := Ground.chain }], guard := none }) (v := ?_) rfl (by kernel_rfl) (by kernel_rfl) (by kernel_rfl) (fun _ _ _ h => h) (Or.inl ⟨by rfl, ?_⟩) (by assumption) ?_
                          rotate_left 1
                          · (intro w' hSw; (try dsimp only at hSw); go_simp; try (with_reducible rfl))
                          try simp only [Act.put, List.setIfInBounds_toArray, List.set_cons_zero, List.set_cons_succ]
                          refine wpAnyH_take (i := 7) (oi := { dst := some 87, op := Op.move (Operand.tmp 14), type := 29, pos := "law.go:95", after := #[{ on := 6, ground := Ground.guard }], guard := some (6, true) }) (v := ?_) rfl (by kernel_rfl) (by kernel_rfl) (by kernel_rfl) (fun _ _ _ h => h) (Or.inl ⟨by rfl, ?_⟩) (by assumption) ?_
                          rotate_left 1
                          · (intro w' hSw; (try dsimp only at hSw); go_simp; try (with_reducible rfl))
                          try simp only [Act.put, List.setIfInBounds_toArray, List.set_cons_zero, List.set_cons_succ]
                          refine wpAnyH_take (i := 9) (oi := { dst := some 89, op := Op.load 34 (Operand.tmp 10), type := 34, pos := "law.go:95", after := #[{ on := 6, ground := Ground.guard }], guard := some (6, true) }) (v := ?_) rfl (by kernel_rfl) (by kernel_rfl) (by kernel_rfl) (fun _ _ _ h => h) (Or.inl ⟨by rfl, ?_⟩) (by assumption) ?_
                          rotate_left 1
                          · (intro w' hSw; (try dsimp only at hSw); go_simp; try (with_reducible rfl))
                          try simp only [Act.put, List.setIfInBounds_toArray, List.set_cons_zero, List.set_cons_succ]
                          refine wpAnyH_ready (rs := [8]) (by kernel_rfl) (by simp) ?_
                          refine AllReadyH.cons rfl (fun K hK => ?_) AllReadyH.nil
                          go_simp
                          go_wp2_with ((go_at_call 11; refine (K2.out _ (Below.refl _ _).drew).mono ?_; rintro x w10 ⟨rfl, hb10⟩; have hb11 := (Below.refl w8.heap.size w8).drew.trans hb10; have r0 := keep_h hb11 n0; have r1 := keep_h hb11 n1; have r2 := keep_h hb11 q0; have r3 := keep_h hb11 q1))
                          refine hK.out _ _ ?_ (fun hHeld => ?_)
                          · (try dsimp only); go_keep
                          clear hK K
                          refine wpAnyH_take (i := 10) (oi := { dst := some 90, op := Op.binOp BinOp.eql 34 (Operand.tmp 88) (Operand.tmp 89) 34, type := 4, pos := "law.go:95", after := #[{ on := 8, ground := Ground.data }, { on := 9, ground := Ground.data }, { on := 6, ground := Ground.guard }], guard := some (6, true) }) (v := ?_) rfl (by kernel_rfl) (by kernel_rfl) (by kernel_rfl) (fun _ _ _ h => h) (Or.inl ⟨by rfl, ?_⟩) (by assumption) ?_
                          rotate_left 1
                          · (intro w' hSw; (try dsimp only at hSw); go_simp; try (with_reducible rfl))
                          try simp only [Act.put, List.setIfInBounds_toArray, List.set_cons_zero, List.set_cons_succ]
                          refine wpAnyH_take (i := 11) (oi := { dst := some 91, op := Op.move (Operand.tmp 90), type := 4, pos := "law.go:95", after := #[{ on := 10, ground := Ground.data }, { on := 8, ground := Ground.chain }, { on := 6, ground := Ground.guard }], guard := some (6, true) }) (v := ?_) rfl (by kernel_rfl) (by kernel_rfl) (by kernel_rfl) (fun _ _ _ h => h) (Or.inl ⟨by rfl, ?_⟩) (by assumption) ?_
                          rotate_left 1
                          · (intro w' hSw; (try dsimp only at hSw); go_simp; try (with_reducible rfl))
                          try simp only [Act.put, List.setIfInBounds_toArray, List.set_cons_zero, List.set_cons_succ]
                          refine wpAnyH_take (i := 12) (oi := { dst := some 92, op := Op.move (Operand.tmp 14), type := 29, pos := "law.go:95", after := #[{ on := 11, ground := Ground.guard }], guard := some (11, false) }) (v := ?_) rfl (by kernel_rfl) (by kernel_rfl) (by kernel_rfl) (fun _ _ _ h => h) (Or.inl ⟨by rfl, ?_⟩) (by assumption) ?_
                          rotate_left 1
                          · (intro w' hSw; (try dsimp only at hSw); go_simp; try (with_reducible rfl))
                          try simp only [Act.put, List.setIfInBounds_toArray, List.set_cons_zero, List.set_cons_succ]
                          refine wpAnyH_take (i := 14) (oi := { dst := some 94, op := Op.load 34 (Operand.tmp 11), type := 34, pos := "law.go:95", after := #[{ on := 11, ground := Ground.guard }], guard := some (11, false) }) (v := ?_) rfl (by kernel_rfl) (by kernel_rfl) (by kernel_rfl) (fun _ _ _ h => h) (Or.inl ⟨by rfl, ?_⟩) (by assumption) ?_
                          rotate_left 1
                          · (intro w' hSw; (try dsimp only at hSw); go_simp; try (with_reducible rfl))
                          try simp only [Act.put, List.setIfInBounds_toArray, List.set_cons_zero, List.set_cons_succ]
                          refine wpAnyH_ready (rs := [13]) (by kernel_rfl) (by simp) ?_
                          refine AllReadyH.cons rfl (fun K hK => ?_) AllReadyH.nil
                          go_simp
                          go_wp2_with ((go_at_call 11; refine (K2.out _ hb11).mono ?_; rintro x w11 ⟨rfl, hb12⟩; have hb13 := hb11.trans (hb12.mono hb11.size); have r4 := keep_h hb13 n0; have r5 := keep_h hb13 n1; have r6 := keep_h hb13 q0; have r7 := keep_h hb13 q1))
                          refine hK.out _ _ ?_ (fun hHeld => ?_)
                          · (try dsimp only); go_keep
                          clear hK K
                          refine wpAnyH_take (i := 15) (oi := { dst := some 95, op := Op.binOp BinOp.eql 34 (Operand.tmp 93) (Operand.tmp 94) 34, type := 4, pos := "law.go:95", after := #[{ on := 13, ground := Ground.data }, { on := 14, ground := Ground.data }, { on := 11, ground := Ground.guard }], guard := some (11, false) }) (v := ?_) rfl (by kernel_rfl) (by kernel_rfl) (by kernel_rfl) (fun _ _ _ h => h) (Or.inl ⟨by rfl, ?_⟩) (by assumption) ?_
                          rotate_left 1
                          · (intro w' hSw; (try dsimp only at hSw); go_simp; try (with_reducible rfl))
                          try simp only [Act.put, List.setIfInBounds_toArray, List.set_cons_zero, List.set_cons_succ]
                          refine wpAnyH_take (i := 16) (oi := { dst := some 96, op := Op.pick (Operand.tmp 91) (Operand.const (Value.bool true)) (Operand.tmp 95), type := 4, pos := "law.go:95", after := #[{ on := 11, ground := Ground.data }, { on := 15, ground := Ground.data }, { on := 6, ground := Ground.guard }], guard := some (6, true) }) (v := ?_) rfl (by kernel_rfl) (by kernel_rfl) (by kernel_rfl) (fun _ _ _ h => h) (Or.inl ⟨by rfl, ?_⟩) (by assumption) ?_
                          rotate_left 1
                          · (intro w' hSw; (try dsimp only at hSw); go_simp; try (with_reducible rfl))
                          try simp only [Act.put, List.setIfInBounds_toArray, List.set_cons_zero, List.set_cons_succ]
                          refine wpAnyH_take (i := 17) (oi := { dst := some 97, op := Op.pick (Operand.tmp 86) (Operand.tmp 96) (Operand.const (Value.bool false)), type := 4, pos := "law.go:95", after := #[{ on := 6, ground := Ground.data }, { on := 16, ground := Ground.data }], guard := none }) (v := ?_) rfl (by kernel_rfl) (by kernel_rfl) (by kernel_rfl) (fun _ _ _ h => h) (Or.inl ⟨by rfl, ?_⟩) (by assumption) ?_
                          rotate_left 1
                          · (intro w' hSw; (try dsimp only at hSw); go_simp; try (with_reducible rfl))
                          try simp only [Act.put, List.setIfInBounds_toArray, List.set_cons_zero, List.set_cons_succ]
                          refine wpAnyH_take (i := 18) (oi := { dst := some 6, op := Op.assign (Operand.tmp 97), type := 4, pos := "law.go:95", after := #[{ on := 17, ground := Ground.data }, { on := 13, ground := Ground.chain }, { on := 0, ground := Ground.phase }, { on := 1, ground := Ground.phase }, { on := 2, ground := Ground.phase }, { on := 3, ground := Ground.phase }, { on := 4, ground := Ground.phase }, { on := 5, ground := Ground.phase }, { on := 6, ground := Ground.phase }, { on := 7, ground := Ground.phase }, { on := 8, ground := Ground.phase }, { on := 9, ground := Ground.phase }, { on := 10, ground := Ground.phase }, { on := 11, ground := Ground.phase }, { on := 12, ground := Ground.phase }, { on := 13, ground := Ground.phase }, { on := 14, ground := Ground.phase }, { on := 15, ground := Ground.phase }, { on := 16, ground := Ground.phase }, { on := 17, ground := Ground.phase }], guard := none }) (v := ?_) rfl (by kernel_rfl) (by kernel_rfl) (by kernel_rfl) (fun _ _ _ h => h) (Or.inl ⟨by rfl, ?_⟩) (by assumption) ?_
                          rotate_left 1
                          · (intro w' hSw; (try dsimp only at hSw); go_simp; try (with_reducible rfl))
                          try simp only [Act.put, List.setIfInBounds_toArray, List.set_cons_zero, List.set_cons_succ]
                          refine wpAnyH_done (by kernel_rfl) ?_ _
                          have S9 := Lib.hid (S8.out.below hb13)
                          clear S8
                          go_wp2
                          exact bodyPost_ret (v := .bool true) (by simp [results, Tryd.results5, go_sem]) rfl ⟨rfl, S9.out.bw⟩
                      · go_upto_region 20 with fail
                        refine wp_region_held_drew (S := (fun w' => w'.cell? ⟨N, 0, none⟩ = some (.int .i64 lo) ∧ w'.cell? ⟨N, 1, none⟩ = some (.int .i64 nx) ∧ w'.cell? ⟨K, 0, none⟩ = some (.int .i64 a) ∧ w'.cell? ⟨K, 1, none⟩ = some (.int .i64 c))) (by kernel_rfl) ?_ (fun hHeld => ?_)
                        · (try dsimp only); go_keep
                        refine wpAnyH_take (i := 0) (oi := { dst := some 80, op := Op.move (Operand.tmp 9), type := 30, pos := "law.go:95", after := #[], guard := none }) (v := ?_) rfl (by kernel_rfl) (by kernel_rfl) (by kernel_rfl) (fun _ _ _ h => h) (Or.inl ⟨by rfl, ?_⟩) (by assumption) ?_
                        rotate_left 1
                        · (intro w' hSw; (try dsimp only at hSw); go_simp; try (with_reducible rfl))
                        try simp only [Act.put, List.setIfInBounds_toArray, List.set_cons_zero, List.set_cons_succ]
                        refine wpAnyH_take (i := 1) (oi := { dst := some 81, op := Op.binOp BinOp.eql 30 (Operand.tmp 80) (Operand.const (Value.int IntKind.i64 0)) 30, type := 4, pos := "law.go:95", after := #[{ on := 0, ground := Ground.data }], guard := none }) (v := ?_) rfl (by kernel_rfl) (by kernel_rfl) (by kernel_rfl) (fun _ _ _ h => h) (Or.inl ⟨by rfl, ?_⟩) (by assumption) ?_
                        rotate_left 1
                        · (intro w' hSw; (try dsimp only at hSw); go_simp; try (with_reducible rfl))
                        try simp only [Act.put, List.setIfInBounds_toArray, List.set_cons_zero, List.set_cons_succ]
                        refine wpAnyH_take (i := 2) (oi := { dst := some 82, op := Op.move (Operand.tmp 81), type := 4, pos := "law.go:95", after := #[{ on := 1, ground := Ground.data }], guard := none }) (v := ?_) rfl (by kernel_rfl) (by kernel_rfl) (by kernel_rfl) (fun _ _ _ h => h) (Or.inl ⟨by rfl, ?_⟩) (by assumption) ?_
                        rotate_left 1
                        · (intro w' hSw; (try dsimp only at hSw); go_simp; try (with_reducible rfl))
                        try simp only [Act.put, List.setIfInBounds_toArray, List.set_cons_zero, List.set_cons_succ]
                        refine wpAnyH_take (i := 3) (oi := { dst := some 83, op := Op.move (Operand.tmp 14), type := 29, pos := "law.go:95", after := #[{ on := 2, ground := Ground.guard }], guard := some (2, true) }) (v := ?_) rfl (by kernel_rfl) (by kernel_rfl) (by kernel_rfl) (fun _ _ _ h => h) (Or.inl ⟨by rfl, ?_⟩) (by assumption) ?_
                        rotate_left 1
                        · (intro w' hSw; (try dsimp only at hSw); go_simp; try (with_reducible rfl))
                        try simp only [Act.put, List.setIfInBounds_toArray, List.set_cons_zero, List.set_cons_succ]
                        refine wpAnyH_take (i := 4) (oi := { dst := some 84, op := Op.binOp BinOp.neq 29 (Operand.tmp 83) (Operand.const (Value.pointer none)) 29, type := 4, pos := "law.go:95", after := #[{ on := 3, ground := Ground.data }, { on := 2, ground := Ground.guard }], guard := some (2, true) }) (v := ?_) rfl (by kernel_rfl) (by kernel_rfl) (by kernel_rfl) (fun _ _ _ h => h) (Or.inl ⟨by rfl, ?_⟩) (by assumption) ?_
                        rotate_left 1
                        · (intro w' hSw; (try dsimp only at hSw); go_simp; try (with_reducible rfl))
                        try simp only [Act.put, List.setIfInBounds_toArray, List.set_cons_zero, List.set_cons_succ]
                        refine wpAnyH_take (i := 5) (oi := { dst := some 85, op := Op.pick (Operand.tmp 82) (Operand.tmp 84) (Operand.const (Value.bool false)), type := 4, pos := "law.go:95", after := #[{ on := 2, ground := Ground.data }, { on := 4, ground := Ground.data }], guard := none }) (v := ?_) rfl (by kernel_rfl) (by kernel_rfl) (by kernel_rfl) (fun _ _ _ h => h) (Or.inl ⟨by rfl, ?_⟩) (by assumption) ?_
                        rotate_left 1
                        · (intro w' hSw; (try dsimp only at hSw); go_simp; try (with_reducible rfl))
                        try simp only [Act.put, List.setIfInBounds_toArray, List.set_cons_zero, List.set_cons_succ]
                        refine wpAnyH_take (i := 6) (oi := { dst := some 86, op := Op.move (Operand.tmp 85), type := 4, pos := "law.go:95", after := #[{ on := 5, ground := Ground.data }, { on := 2, ground := Ground.chain }], guard := none }) (v := ?_) rfl (by kernel_rfl) (by kernel_rfl) (by kernel_rfl) (fun _ _ _ h => h) (Or.inl ⟨by rfl, ?_⟩) (by assumption) ?_
                        rotate_left 1
                        · (intro w' hSw; (try dsimp only at hSw); go_simp; try (with_reducible rfl))
                        try simp only [Act.put, List.setIfInBounds_toArray, List.set_cons_zero, List.set_cons_succ]
                        refine wpAnyH_take (i := 7) (oi := { dst := some 87, op := Op.move (Operand.tmp 14), type := 29, pos := "law.go:95", after := #[{ on := 6, ground := Ground.guard }], guard := some (6, true) }) (v := ?_) rfl (by kernel_rfl) (by kernel_rfl) (by kernel_rfl) (fun _ _ _ h => h) (Or.inl ⟨by rfl, ?_⟩) (by assumption) ?_
                        rotate_left 1
                        · (intro w' hSw; (try dsimp only at hSw); go_simp; try (with_reducible rfl))
                        try simp only [Act.put, List.setIfInBounds_toArray, List.set_cons_zero, List.set_cons_succ]
                        refine wpAnyH_take (i := 9) (oi := { dst := some 89, op := Op.load 34 (Operand.tmp 10), type := 34, pos := "law.go:95", after := #[{ on := 6, ground := Ground.guard }], guard := some (6, true) }) (v := ?_) rfl (by kernel_rfl) (by kernel_rfl) (by kernel_rfl) (fun _ _ _ h => h) (Or.inl ⟨by rfl, ?_⟩) (by assumption) ?_
                        rotate_left 1
                        · (intro w' hSw; (try dsimp only at hSw); go_simp; try (with_reducible rfl))
                        try simp only [Act.put, List.setIfInBounds_toArray, List.set_cons_zero, List.set_cons_succ]
                        refine wpAnyH_ready (rs := [8]) (by kernel_rfl) (by simp) ?_
                        refine AllReadyH.cons rfl (fun K hK => ?_) AllReadyH.nil
                        go_simp
                        go_wp2_with ((go_at_call 11; refine (K2.out _ (Below.refl _ _).drew).mono ?_; rintro x w10 ⟨rfl, hb10⟩; have hb11 := (Below.refl w8.heap.size w8).drew.trans hb10; have r0 := keep_h hb11 n0; have r1 := keep_h hb11 n1; have r2 := keep_h hb11 q0; have r3 := keep_h hb11 q1))
                        refine hK.out _ _ ?_ (fun hHeld => ?_)
                        · (try dsimp only); go_keep
                        clear hK K
                        refine wpAnyH_take (i := 10) (oi := { dst := some 90, op := Op.binOp BinOp.eql 34 (Operand.tmp 88) (Operand.tmp 89) 34, type := 4, pos := "law.go:95", after := #[{ on := 8, ground := Ground.data }, { on := 9, ground := Ground.data }, { on := 6, ground := Ground.guard }], guard := some (6, true) }) (v := ?_) rfl (by kernel_rfl) (by kernel_rfl) (by kernel_rfl) (fun _ _ _ h => h) (Or.inl ⟨by rfl, ?_⟩) (by assumption) ?_
                        rotate_left 1
                        · (intro w' hSw; (try dsimp only at hSw); go_simp; try (with_reducible rfl))
                        try simp only [Act.put, List.setIfInBounds_toArray, List.set_cons_zero, List.set_cons_succ]
                        refine wpAnyH_take (i := 11) (oi := { dst := some 91, op := Op.move (Operand.tmp 90), type := 4, pos := "law.go:95", after := #[{ on := 10, ground := Ground.data }, { on := 8, ground := Ground.chain }, { on := 6, ground := Ground.guard }], guard := some (6, true) }) (v := ?_) rfl (by kernel_rfl) (by kernel_rfl) (by kernel_rfl) (fun _ _ _ h => h) (Or.inl ⟨by rfl, ?_⟩) (by assumption) ?_
                        rotate_left 1
                        · (intro w' hSw; (try dsimp only at hSw); go_simp; try (with_reducible rfl))
                        try simp only [Act.put, List.setIfInBounds_toArray, List.set_cons_zero, List.set_cons_succ]
                        refine wpAnyH_take (i := 12) (oi := { dst := some 92, op := Op.move (Operand.tmp 14), type := 29, pos := "law.go:95", after := #[{ on := 11, ground := Ground.guard }], guard := some (11, false) }) (v := ?_) rfl (by kernel_rfl) (by kernel_rfl) (by kernel_rfl) (fun _ _ _ h => h) (Or.inl ⟨by rfl, ?_⟩) (by assumption) ?_
                        rotate_left 1
                        · (intro w' hSw; (try dsimp only at hSw); go_simp; try (with_reducible rfl))
                        try simp only [Act.put, List.setIfInBounds_toArray, List.set_cons_zero, List.set_cons_succ]
                        refine wpAnyH_take (i := 14) (oi := { dst := some 94, op := Op.load 34 (Operand.tmp 11), type := 34, pos := "law.go:95", after := #[{ on := 11, ground := Ground.guard }], guard := some (11, false) }) (v := ?_) rfl (by kernel_rfl) (by kernel_rfl) (by kernel_rfl) (fun _ _ _ h => h) (Or.inl ⟨by rfl, ?_⟩) (by assumption) ?_
                        rotate_left 1
                        · (intro w' hSw; (try dsimp only at hSw); go_simp; try (with_reducible rfl))
                        try simp only [Act.put, List.setIfInBounds_toArray, List.set_cons_zero, List.set_cons_succ]
                        refine wpAnyH_ready (rs := [13]) (by kernel_rfl) (by simp) ?_
                        refine AllReadyH.cons rfl (fun K hK => ?_) AllReadyH.nil
                        go_simp
                        go_wp2_with ((go_at_call 11; refine (K2.out _ hb11).mono ?_; rintro x w11 ⟨rfl, hb12⟩; have hb13 := hb11.trans (hb12.mono hb11.size); have r4 := keep_h hb13 n0; have r5 := keep_h hb13 n1; have r6 := keep_h hb13 q0; have r7 := keep_h hb13 q1))
                        refine hK.out _ _ ?_ (fun hHeld => ?_)
                        · (try dsimp only); go_keep
                        clear hK K
                        refine wpAnyH_take (i := 15) (oi := { dst := some 95, op := Op.binOp BinOp.eql 34 (Operand.tmp 93) (Operand.tmp 94) 34, type := 4, pos := "law.go:95", after := #[{ on := 13, ground := Ground.data }, { on := 14, ground := Ground.data }, { on := 11, ground := Ground.guard }], guard := some (11, false) }) (v := ?_) rfl (by kernel_rfl) (by kernel_rfl) (by kernel_rfl) (fun _ _ _ h => h) (Or.inl ⟨by rfl, ?_⟩) (by assumption) ?_
                        rotate_left 1
                        · (intro w' hSw; (try dsimp only at hSw); go_simp; try (with_reducible rfl))
                        try simp only [Act.put, List.setIfInBounds_toArray, List.set_cons_zero, List.set_cons_succ]
                        refine wpAnyH_take (i := 16) (oi := { dst := some 96, op := Op.pick (Operand.tmp 91) (Operand.const (Value.bool true)) (Operand.tmp 95), type := 4, pos := "law.go:95", after := #[{ on := 11, ground := Ground.data }, { on := 15, ground := Ground.data }, { on := 6, ground := Ground.guard }], guard := some (6, true) }) (v := ?_) rfl (by kernel_rfl) (by kernel_rfl) (by kernel_rfl) (fun _ _ _ h => h) (Or.inl ⟨by rfl, ?_⟩) (by assumption) ?_
                        rotate_left 1
                        · (intro w' hSw; (try dsimp only at hSw); go_simp; try (with_reducible rfl))
                        try simp only [Act.put, List.setIfInBounds_toArray, List.set_cons_zero, List.set_cons_succ]
                        refine wpAnyH_take (i := 17) (oi := { dst := some 97, op := Op.pick (Operand.tmp 86) (Operand.tmp 96) (Operand.const (Value.bool false)), type := 4, pos := "law.go:95", after := #[{ on := 6, ground := Ground.data }, { on := 16, ground := Ground.data }], guard := none }) (v := ?_) rfl (by kernel_rfl) (by kernel_rfl) (by kernel_rfl) (fun _ _ _ h => h) (Or.inl ⟨by rfl, ?_⟩) (by assumption) ?_
                        rotate_left 1
                        · (intro w' hSw; (try dsimp only at hSw); go_simp; try (with_reducible rfl))
                        try simp only [Act.put, List.setIfInBounds_toArray, List.set_cons_zero, List.set_cons_succ]
                        refine wpAnyH_take (i := 18) (oi := { dst := some 6, op := Op.assign (Operand.tmp 97), type := 4, pos := "law.go:95", after := #[{ on := 17, ground := Ground.data }, { on := 13, ground := Ground.chain }, { on := 0, ground := Ground.phase }, { on := 1, ground := Ground.phase }, { on := 2, ground := Ground.phase }, { on := 3, ground := Ground.phase }, { on := 4, ground := Ground.phase }, { on := 5, ground := Ground.phase }, { on := 6, ground := Ground.phase }, { on := 7, ground := Ground.phase }, { on := 8, ground := Ground.phase }, { on := 9, ground := Ground.phase }, { on := 10, ground := Ground.phase }, { on := 11, ground := Ground.phase }, { on := 12, ground := Ground.phase }, { on := 13, ground := Ground.phase }, { on := 14, ground := Ground.phase }, { on := 15, ground := Ground.phase }, { on := 16, ground := Ground.phase }, { on := 17, ground := Ground.phase }], guard := none }) (v := ?_) rfl (by kernel_rfl) (by kernel_rfl) (by kernel_rfl) (fun _ _ _ h => h) (Or.inl ⟨by rfl, ?_⟩) (by assumption) ?_
                        rotate_left 1
                        · (intro w' hSw; (try dsimp only at hSw); go_simp; try (with_reducible rfl))
                        try simp only [Act.put, List.setIfInBounds_toArray, List.set_cons_zero, List.set_cons_succ]
                        refine wpAnyH_done (by kernel_rfl) ?_ _
                        have S9 := Lib.hid (S8.out.below hb13)
                        clear S8
                        go_wp2
                        exact bodyPost_ret (v := .bool true) (by simp [results, Tryd.results5, go_sem]) rfl ⟨rfl, S9.out.bw⟩
              · have HS := Lib.hid hS
                clear hS
                have KK := Lib.hid (pt_bad HK.out.s (by omega) a c hA1 hA2 HS.out)
                go_wp2_with fail
                refine KK.out.mono ?_
                rintro x w6 ⟨rfl, hs6, hf6⟩
                have SK := Lib.hid (HK.out.keep hs6 hf6).same
                clear hs6 hf6 KK HK e0 e1
                go_wp2
                go_roundw
                case rel => exact ⟨k + 1, lo, nx, sq, left, b, by omega, by go_num, by omega, by omega, hlf, SK⟩
                case measure => simp [intOf]; omega
        · have hk0 : (l.length : Int) ≤ (k : Int) := by omega
          have CE := Lib.hid HK.out.ends
          clear HK
          have KX := Lib.hid (c_crash CE.out.d ka ks kc hk2 HKW.out (ints_in3 HKI.out CE.out.bw CE.out.lo'.2.1))
          go_wp2_with fail
          refine KX.out.mono ?_
          rintro x w7 ⟨rfl, hu7, hf7⟩
          have C7 := Lib.hid (CE.out.crash hf7)
          have KO := Lib.hid (p_open hu7 (HT.out.below C7.out.bw))
          clear hu7 hf7 KX CE
          go_wp2_with fail
          refine KO.out.mono ?_
          rintro x w8 (⟨A2, hA2, rfl, hm8, hb8⟩ | ⟨A2, hA2, rfl, hm8, hb8⟩)
          · have S8 := Lib.hid (C7.out.below hb8)
            have M8 := Lib.hid hm8
            clear hm8 hb8 hA2 KO C7
            have n0 := S8.out.n.c0
            have n1 := S8.out.n.c1
            have q0 := S8.out.q.c0
            have q1 := S8.out.q.c1
            have K2 := Lib.hid (fun X (hX : Below w8.heap.size w8 X) => point_any (M8.out.below hX))
            go_upto_region 20 with fail
            refine wp_region_held_drew (S := (fun w' => w'.cell? ⟨N, 0, none⟩ = some (.int .i64 lo) ∧ w'.cell? ⟨N, 1, none⟩ = some (.int .i64 nx) ∧ w'.cell? ⟨K, 0, none⟩ = some (.int .i64 lo) ∧ w'.cell? ⟨K, 1, none⟩ = some (.int .i64 nx))) (by kernel_rfl) ?_ (fun hHeld => ?_)
            · (try dsimp only); go_keep
            refine wpAnyH_take (i := 0) (oi := { dst := some 80, op := Op.move (Operand.tmp 9), type := 30, pos := "law.go:95", after := #[], guard := none }) (v := ?_) rfl (by kernel_rfl) (by kernel_rfl) (by kernel_rfl) (fun _ _ _ h => h) (Or.inl ⟨by rfl, ?_⟩) (by assumption) ?_
            rotate_left 1
            · (intro w' hSw; (try dsimp only at hSw); go_simp; try (with_reducible rfl))
            try simp only [Act.put, List.setIfInBounds_toArray, List.set_cons_zero, List.set_cons_succ]
            refine wpAnyH_take (i := 1) (oi := { dst := some 81, op := Op.binOp BinOp.eql 30 (Operand.tmp 80) (Operand.const (Value.int IntKind.i64 0)) 30, type := 4, pos := "law.go:95", after := #[{ on := 0, ground := Ground.data }], guard := none }) (v := ?_) rfl (by kernel_rfl) (by kernel_rfl) (by kernel_rfl) (fun _ _ _ h => h) (Or.inl ⟨by rfl, ?_⟩) (by assumption) ?_
            rotate_left 1
            · (intro w' hSw; (try dsimp only at hSw); go_simp; try (with_reducible rfl))
            try simp only [Act.put, List.setIfInBounds_toArray, List.set_cons_zero, List.set_cons_succ]
            refine wpAnyH_take (i := 2) (oi := { dst := some 82, op := Op.move (Operand.tmp 81), type := 4, pos := "law.go:95", after := #[{ on := 1, ground := Ground.data }], guard := none }) (v := ?_) rfl (by kernel_rfl) (by kernel_rfl) (by kernel_rfl) (fun _ _ _ h => h) (Or.inl ⟨by rfl, ?_⟩) (by assumption) ?_
            rotate_left 1
            · (intro w' hSw; (try dsimp only at hSw); go_simp; try (with_reducible rfl))
            try simp only [Act.put, List.setIfInBounds_toArray, List.set_cons_zero, List.set_cons_succ]
            refine wpAnyH_take (i := 3) (oi := { dst := some 83, op := Op.move (Operand.tmp 14), type := 29, pos := "law.go:95", after := #[{ on := 2, ground := Ground.guard }], guard := some (2, true) }) (v := ?_) rfl (by kernel_rfl) (by kernel_rfl) (by kernel_rfl) (fun _ _ _ h => h) (Or.inl ⟨by rfl, ?_⟩) (by assumption) ?_
            rotate_left 1
            · (intro w' hSw; (try dsimp only at hSw); go_simp; try (with_reducible rfl))
            try simp only [Act.put, List.setIfInBounds_toArray, List.set_cons_zero, List.set_cons_succ]
            refine wpAnyH_take (i := 4) (oi := { dst := some 84, op := Op.binOp BinOp.neq 29 (Operand.tmp 83) (Operand.const (Value.pointer none)) 29, type := 4, pos := "law.go:95", after := #[{ on := 3, ground := Ground.data }, { on := 2, ground := Ground.guard }], guard := some (2, true) }) (v := ?_) rfl (by kernel_rfl) (by kernel_rfl) (by kernel_rfl) (fun _ _ _ h => h) (Or.inl ⟨by rfl, ?_⟩) (by assumption) ?_
            rotate_left 1
            · (intro w' hSw; (try dsimp only at hSw); go_simp; try (with_reducible rfl))
            try simp only [Act.put, List.setIfInBounds_toArray, List.set_cons_zero, List.set_cons_succ]
            refine wpAnyH_take (i := 5) (oi := { dst := some 85, op := Op.pick (Operand.tmp 82) (Operand.tmp 84) (Operand.const (Value.bool false)), type := 4, pos := "law.go:95", after := #[{ on := 2, ground := Ground.data }, { on := 4, ground := Ground.data }], guard := none }) (v := ?_) rfl (by kernel_rfl) (by kernel_rfl) (by kernel_rfl) (fun _ _ _ h => h) (Or.inl ⟨by rfl, ?_⟩) (by assumption) ?_
            rotate_left 1
            · (intro w' hSw; (try dsimp only at hSw); go_simp; try (with_reducible rfl))
            try simp only [Act.put, List.setIfInBounds_toArray, List.set_cons_zero, List.set_cons_succ]
            refine wpAnyH_take (i := 6) (oi := { dst := some 86, op := Op.move (Operand.tmp 85), type := 4, pos := "law.go:95", after := #[{ on := 5, ground := Ground.data }, { on := 2, ground := Ground.chain }], guard := none }) (v := ?_) rfl (by kernel_rfl) (by kernel_rfl) (by kernel_rfl) (fun _ _ _ h => h) (Or.inl ⟨by rfl, ?_⟩) (by assumption) ?_
            rotate_left 1
            · (intro w' hSw; (try dsimp only at hSw); go_simp; try (with_reducible rfl))
            try simp only [Act.put, List.setIfInBounds_toArray, List.set_cons_zero, List.set_cons_succ]
            refine wpAnyH_take (i := 7) (oi := { dst := some 87, op := Op.move (Operand.tmp 14), type := 29, pos := "law.go:95", after := #[{ on := 6, ground := Ground.guard }], guard := some (6, true) }) (v := ?_) rfl (by kernel_rfl) (by kernel_rfl) (by kernel_rfl) (fun _ _ _ h => h) (Or.inl ⟨by rfl, ?_⟩) (by assumption) ?_
            rotate_left 1
            · (intro w' hSw; (try dsimp only at hSw); go_simp; try (with_reducible rfl))
            try simp only [Act.put, List.setIfInBounds_toArray, List.set_cons_zero, List.set_cons_succ]
            refine wpAnyH_take (i := 9) (oi := { dst := some 89, op := Op.load 34 (Operand.tmp 10), type := 34, pos := "law.go:95", after := #[{ on := 6, ground := Ground.guard }], guard := some (6, true) }) (v := ?_) rfl (by kernel_rfl) (by kernel_rfl) (by kernel_rfl) (fun _ _ _ h => h) (Or.inl ⟨by rfl, ?_⟩) (by assumption) ?_
            rotate_left 1
            · (intro w' hSw; (try dsimp only at hSw); go_simp; try (with_reducible rfl))
            try simp only [Act.put, List.setIfInBounds_toArray, List.set_cons_zero, List.set_cons_succ]
            refine wpAnyH_ready (rs := [8]) (by kernel_rfl) (by simp) ?_
            refine AllReadyH.cons rfl (fun K hK => ?_) AllReadyH.nil
            go_simp
            go_wp2_with ((go_at_call 11; refine (K2.out _ (Below.refl _ _).drew).mono ?_; rintro x w10 ⟨rfl, hb10⟩; have hb11 := (Below.refl w8.heap.size w8).drew.trans hb10; have r0 := keep_h hb11 n0; have r1 := keep_h hb11 n1; have r2 := keep_h hb11 q0; have r3 := keep_h hb11 q1))
            refine hK.out _ _ ?_ (fun hHeld => ?_)
            · (try dsimp only); go_keep
            clear hK K
            refine wpAnyH_take (i := 10) (oi := { dst := some 90, op := Op.binOp BinOp.eql 34 (Operand.tmp 88) (Operand.tmp 89) 34, type := 4, pos := "law.go:95", after := #[{ on := 8, ground := Ground.data }, { on := 9, ground := Ground.data }, { on := 6, ground := Ground.guard }], guard := some (6, true) }) (v := ?_) rfl (by kernel_rfl) (by kernel_rfl) (by kernel_rfl) (fun _ _ _ h => h) (Or.inl ⟨by rfl, ?_⟩) (by assumption) ?_
            rotate_left 1
            · (intro w' hSw; (try dsimp only at hSw); go_simp; try (with_reducible rfl))
            try simp only [Act.put, List.setIfInBounds_toArray, List.set_cons_zero, List.set_cons_succ]
            refine wpAnyH_take (i := 11) (oi := { dst := some 91, op := Op.move (Operand.tmp 90), type := 4, pos := "law.go:95", after := #[{ on := 10, ground := Ground.data }, { on := 8, ground := Ground.chain }, { on := 6, ground := Ground.guard }], guard := some (6, true) }) (v := ?_) rfl (by kernel_rfl) (by kernel_rfl) (by kernel_rfl) (fun _ _ _ h => h) (Or.inl ⟨by rfl, ?_⟩) (by assumption) ?_
            rotate_left 1
            · (intro w' hSw; (try dsimp only at hSw); go_simp; try (with_reducible rfl))
            try simp only [Act.put, List.setIfInBounds_toArray, List.set_cons_zero, List.set_cons_succ]
            refine wpAnyH_take (i := 12) (oi := { dst := some 92, op := Op.move (Operand.tmp 14), type := 29, pos := "law.go:95", after := #[{ on := 11, ground := Ground.guard }], guard := some (11, false) }) (v := undef) rfl (by kernel_rfl) (by kernel_rfl) (by kernel_rfl) (fun _ _ _ h => h) (Or.inr ⟨by rfl, rfl⟩) (by assumption) ?_
            try simp only [Act.put, List.setIfInBounds_toArray, List.set_cons_zero, List.set_cons_succ]
            refine wpAnyH_take (i := 13) (oi := { dst := some 93, op := Op.call { callee := Callee.value (Operand.func 11), args := #[Operand.tmp 92], argTypes := #[29] }, type := 34, pos := "law.go:95", after := #[{ on := 12, ground := Ground.data }, { on := 11, ground := Ground.chain }, { on := 11, ground := Ground.guard }], guard := some (11, false) }) (v := undef) rfl (by kernel_rfl) (by kernel_rfl) (by kernel_rfl) (fun _ _ _ h => h) (Or.inr ⟨by rfl, rfl⟩) (by assumption) ?_
            try simp only [Act.put, List.setIfInBounds_toArray, List.set_cons_zero, List.set_cons_succ]
            refine wpAnyH_take (i := 14) (oi := { dst := some 94, op := Op.load 34 (Operand.tmp 11), type := 34, pos := "law.go:95", after := #[{ on := 11, ground := Ground.guard }], guard := some (11, false) }) (v := undef) rfl (by kernel_rfl) (by kernel_rfl) (by kernel_rfl) (fun _ _ _ h => h) (Or.inr ⟨by rfl, rfl⟩) (by assumption) ?_
            try simp only [Act.put, List.setIfInBounds_toArray, List.set_cons_zero, List.set_cons_succ]
            refine wpAnyH_take (i := 15) (oi := { dst := some 95, op := Op.binOp BinOp.eql 34 (Operand.tmp 93) (Operand.tmp 94) 34, type := 4, pos := "law.go:95", after := #[{ on := 13, ground := Ground.data }, { on := 14, ground := Ground.data }, { on := 11, ground := Ground.guard }], guard := some (11, false) }) (v := undef) rfl (by kernel_rfl) (by kernel_rfl) (by kernel_rfl) (fun _ _ _ h => h) (Or.inr ⟨by rfl, rfl⟩) (by assumption) ?_
            try simp only [Act.put, List.setIfInBounds_toArray, List.set_cons_zero, List.set_cons_succ]
            refine wpAnyH_take (i := 16) (oi := { dst := some 96, op := Op.pick (Operand.tmp 91) (Operand.const (Value.bool true)) (Operand.tmp 95), type := 4, pos := "law.go:95", after := #[{ on := 11, ground := Ground.data }, { on := 15, ground := Ground.data }, { on := 6, ground := Ground.guard }], guard := some (6, true) }) (v := ?_) rfl (by kernel_rfl) (by kernel_rfl) (by kernel_rfl) (fun _ _ _ h => h) (Or.inl ⟨by rfl, ?_⟩) (by assumption) ?_
            rotate_left 1
            · (intro w' hSw; (try dsimp only at hSw); go_simp; try (with_reducible rfl))
            try simp only [Act.put, List.setIfInBounds_toArray, List.set_cons_zero, List.set_cons_succ]
            refine wpAnyH_take (i := 17) (oi := { dst := some 97, op := Op.pick (Operand.tmp 86) (Operand.tmp 96) (Operand.const (Value.bool false)), type := 4, pos := "law.go:95", after := #[{ on := 6, ground := Ground.data }, { on := 16, ground := Ground.data }], guard := none }) (v := ?_) rfl (by kernel_rfl) (by kernel_rfl) (by kernel_rfl) (fun _ _ _ h => h) (Or.inl ⟨by rfl, ?_⟩) (by assumption) ?_
            rotate_left 1
            · (intro w' hSw; (try dsimp only at hSw); go_simp; try (with_reducible rfl))
            try simp only [Act.put, List.setIfInBounds_toArray, List.set_cons_zero, List.set_cons_succ]
            refine wpAnyH_take (i := 18) (oi := { dst := some 6, op := Op.assign (Operand.tmp 97), type := 4, pos := "law.go:95", after := #[{ on := 17, ground := Ground.data }, { on := 13, ground := Ground.chain }, { on := 0, ground := Ground.phase }, { on := 1, ground := Ground.phase }, { on := 2, ground := Ground.phase }, { on := 3, ground := Ground.phase }, { on := 4, ground := Ground.phase }, { on := 5, ground := Ground.phase }, { on := 6, ground := Ground.phase }, { on := 7, ground := Ground.phase }, { on := 8, ground := Ground.phase }, { on := 9, ground := Ground.phase }, { on := 10, ground := Ground.phase }, { on := 11, ground := Ground.phase }, { on := 12, ground := Ground.phase }, { on := 13, ground := Ground.phase }, { on := 14, ground := Ground.phase }, { on := 15, ground := Ground.phase }, { on := 16, ground := Ground.phase }, { on := 17, ground := Ground.phase }], guard := none }) (v := ?_) rfl (by kernel_rfl) (by kernel_rfl) (by kernel_rfl) (fun _ _ _ h => h) (Or.inl ⟨by rfl, ?_⟩) (by assumption) ?_
            rotate_left 1
            · (intro w' hSw; (try dsimp only at hSw); go_simp; try (with_reducible rfl))
            try simp only [Act.put, List.setIfInBounds_toArray, List.set_cons_zero, List.set_cons_succ]
            refine wpAnyH_done (by kernel_rfl) ?_ _
            have S9 := Lib.hid (S8.out.below hb11)
            clear S8
            go_wp2
            exact bodyPost_ret (v := .bool true) (by simp [results, Tryd.results5, go_sem]) rfl ⟨rfl, S9.out.bw⟩
          · have S8 := Lib.hid (C7.out.below hb8)
            have M8 := Lib.hid hm8
            clear hm8 hb8 hA2 KO C7
            have n0 := S8.out.n.c0
            have n1 := S8.out.n.c1
            have q0 := S8.out.q.c0
            have q1 := S8.out.q.c1
            have K2 := Lib.hid (fun X (hX : Below w8.heap.size w8 X) => point_any (M8.out.below hX))
            go_upto_region 20 with fail
            refine wp_region_held_drew (S := (fun w' => w'.cell? ⟨N, 0, none⟩ = some (.int .i64 lo) ∧ w'.cell? ⟨N, 1, none⟩ = some (.int .i64 nx) ∧ w'.cell? ⟨K, 0, none⟩ = some (.int .i64 lo) ∧ w'.cell? ⟨K, 1, none⟩ = some (.int .i64 nx))) (by kernel_rfl) ?_ (fun hHeld => ?_)
            · (try dsimp only); go_keep
            refine wpAnyH_take (i := 0) (oi := { dst := some 80, op := Op.move (Operand.tmp 9), type := 30, pos := "law.go:95", after := #[], guard := none }) (v := ?_) rfl (by kernel_rfl) (by kernel_rfl) (by kernel_rfl) (fun _ _ _ h => h) (Or.inl ⟨by rfl, ?_⟩) (by assumption) ?_
            rotate_left 1
            · (intro w' hSw; (try dsimp only at hSw); go_simp; try (with_reducible rfl))
            try simp only [Act.put, List.setIfInBounds_toArray, List.set_cons_zero, List.set_cons_succ]
            refine wpAnyH_take (i := 1) (oi := { dst := some 81, op := Op.binOp BinOp.eql 30 (Operand.tmp 80) (Operand.const (Value.int IntKind.i64 0)) 30, type := 4, pos := "law.go:95", after := #[{ on := 0, ground := Ground.data }], guard := none }) (v := ?_) rfl (by kernel_rfl) (by kernel_rfl) (by kernel_rfl) (fun _ _ _ h => h) (Or.inl ⟨by rfl, ?_⟩) (by assumption) ?_
            rotate_left 1
            · (intro w' hSw; (try dsimp only at hSw); go_simp; try (with_reducible rfl))
            try simp only [Act.put, List.setIfInBounds_toArray, List.set_cons_zero, List.set_cons_succ]
            refine wpAnyH_take (i := 2) (oi := { dst := some 82, op := Op.move (Operand.tmp 81), type := 4, pos := "law.go:95", after := #[{ on := 1, ground := Ground.data }], guard := none }) (v := ?_) rfl (by kernel_rfl) (by kernel_rfl) (by kernel_rfl) (fun _ _ _ h => h) (Or.inl ⟨by rfl, ?_⟩) (by assumption) ?_
            rotate_left 1
            · (intro w' hSw; (try dsimp only at hSw); go_simp; try (with_reducible rfl))
            try simp only [Act.put, List.setIfInBounds_toArray, List.set_cons_zero, List.set_cons_succ]
            refine wpAnyH_take (i := 3) (oi := { dst := some 83, op := Op.move (Operand.tmp 14), type := 29, pos := "law.go:95", after := #[{ on := 2, ground := Ground.guard }], guard := some (2, true) }) (v := ?_) rfl (by kernel_rfl) (by kernel_rfl) (by kernel_rfl) (fun _ _ _ h => h) (Or.inl ⟨by rfl, ?_⟩) (by assumption) ?_
            rotate_left 1
            · (intro w' hSw; (try dsimp only at hSw); go_simp; try (with_reducible rfl))
            try simp only [Act.put, List.setIfInBounds_toArray, List.set_cons_zero, List.set_cons_succ]
            refine wpAnyH_take (i := 4) (oi := { dst := some 84, op := Op.binOp BinOp.neq 29 (Operand.tmp 83) (Operand.const (Value.pointer none)) 29, type := 4, pos := "law.go:95", after := #[{ on := 3, ground := Ground.data }, { on := 2, ground := Ground.guard }], guard := some (2, true) }) (v := ?_) rfl (by kernel_rfl) (by kernel_rfl) (by kernel_rfl) (fun _ _ _ h => h) (Or.inl ⟨by rfl, ?_⟩) (by assumption) ?_
            rotate_left 1
            · (intro w' hSw; (try dsimp only at hSw); go_simp; try (with_reducible rfl))
            try simp only [Act.put, List.setIfInBounds_toArray, List.set_cons_zero, List.set_cons_succ]
            refine wpAnyH_take (i := 5) (oi := { dst := some 85, op := Op.pick (Operand.tmp 82) (Operand.tmp 84) (Operand.const (Value.bool false)), type := 4, pos := "law.go:95", after := #[{ on := 2, ground := Ground.data }, { on := 4, ground := Ground.data }], guard := none }) (v := ?_) rfl (by kernel_rfl) (by kernel_rfl) (by kernel_rfl) (fun _ _ _ h => h) (Or.inl ⟨by rfl, ?_⟩) (by assumption) ?_
            rotate_left 1
            · (intro w' hSw; (try dsimp only at hSw); go_simp; try (with_reducible rfl))
            try simp only [Act.put, List.setIfInBounds_toArray, List.set_cons_zero, List.set_cons_succ]
            refine wpAnyH_take (i := 6) (oi := { dst := some 86, op := Op.move (Operand.tmp 85), type := 4, pos := "law.go:95", after := #[{ on := 5, ground := Ground.data }, { on := 2, ground := Ground.chain }], guard := none }) (v := ?_) rfl (by kernel_rfl) (by kernel_rfl) (by kernel_rfl) (fun _ _ _ h => h) (Or.inl ⟨by rfl, ?_⟩) (by assumption) ?_
            rotate_left 1
            · (intro w' hSw; (try dsimp only at hSw); go_simp; try (with_reducible rfl))
            try simp only [Act.put, List.setIfInBounds_toArray, List.set_cons_zero, List.set_cons_succ]
            refine wpAnyH_take (i := 7) (oi := { dst := some 87, op := Op.move (Operand.tmp 14), type := 29, pos := "law.go:95", after := #[{ on := 6, ground := Ground.guard }], guard := some (6, true) }) (v := ?_) rfl (by kernel_rfl) (by kernel_rfl) (by kernel_rfl) (fun _ _ _ h => h) (Or.inl ⟨by rfl, ?_⟩) (by assumption) ?_
            rotate_left 1
            · (intro w' hSw; (try dsimp only at hSw); go_simp; try (with_reducible rfl))
            try simp only [Act.put, List.setIfInBounds_toArray, List.set_cons_zero, List.set_cons_succ]
            refine wpAnyH_take (i := 9) (oi := { dst := some 89, op := Op.load 34 (Operand.tmp 10), type := 34, pos := "law.go:95", after := #[{ on := 6, ground := Ground.guard }], guard := some (6, true) }) (v := ?_) rfl (by kernel_rfl) (by kernel_rfl) (by kernel_rfl) (fun _ _ _ h => h) (Or.inl ⟨by rfl, ?_⟩) (by assumption) ?_
            rotate_left 1
            · (intro w' hSw; (try dsimp only at hSw); go_simp; try (with_reducible rfl))
            try simp only [Act.put, List.setIfInBounds_toArray, List.set_cons_zero, List.set_cons_succ]
            refine wpAnyH_ready (rs := [8]) (by kernel_rfl) (by simp) ?_
            refine AllReadyH.cons rfl (fun K hK => ?_) AllReadyH.nil
            go_simp
            go_wp2_with ((go_at_call 11; refine (K2.out _ (Below.refl _ _).drew).mono ?_; rintro x w10 ⟨rfl, hb10⟩; have hb11 := (Below.refl w8.heap.size w8).drew.trans hb10; have r0 := keep_h hb11 n0; have r1 := keep_h hb11 n1; have r2 := keep_h hb11 q0; have r3 := keep_h hb11 q1))
            refine hK.out _ _ ?_ (fun hHeld => ?_)
            · (try dsimp only); go_keep
            clear hK K
            refine wpAnyH_take (i := 10) (oi := { dst := some 90, op := Op.binOp BinOp.eql 34 (Operand.tmp 88) (Operand.tmp 89) 34, type := 4, pos := "law.go:95", after := #[{ on := 8, ground := Ground.data }, { on := 9, ground := Ground.data }, { on := 6, ground := Ground.guard }], guard := some (6, true) }) (v := ?_) rfl (by kernel_rfl) (by kernel_rfl) (by kernel_rfl) (fun _ _ _ h => h) (Or.inl ⟨by rfl, ?_⟩) (by assumption) ?_
            rotate_left 1
            · (intro w' hSw; (try dsimp only at hSw); go_simp; try (with_reducible rfl))
            try simp only [Act.put, List.setIfInBounds_toArray, List.set_cons_zero, List.set_cons_succ]
            refine wpAnyH_take (i := 11) (oi := { dst := some 91, op := Op.move (Operand.tmp 90), type := 4, pos := "law.go:95", after := #[{ on := 10, ground := Ground.data }, { on := 8, ground := Ground.chain }, { on := 6, ground := Ground.guard }], guard := some (6, true) }) (v := ?_) rfl (by kernel_rfl) (by kernel_rfl) (by kernel_rfl) (fun _ _ _ h => h) (Or.inl ⟨by rfl, ?_⟩) (by assumption) ?_
            rotate_left 1
            · (intro w' hSw; (try dsimp only at hSw); go_simp; try (with_reducible rfl))
            try simp only [Act.put, List.setIfInBounds_toArray, List.set_cons_zero, List.set_cons_succ]
            refine wpAnyH_take (i := 12) (oi := { dst := some 92, op := Op.move (Operand.tmp 14), type := 29, pos := "law.go:95", after := #[{ on := 11, ground := Ground.guard }], guard := some (11, false) }) (v := undef) rfl (by kernel_rfl) (by kernel_rfl) (by kernel_rfl) (fun _ _ _ h => h) (Or.inr ⟨by rfl, rfl⟩) (by assumption) ?_
            try simp only [Act.put, List.setIfInBounds_toArray, List.set_cons_zero, List.set_cons_succ]
            refine wpAnyH_take (i := 13) (oi := { dst := some 93, op := Op.call { callee := Callee.value (Operand.func 11), args := #[Operand.tmp 92], argTypes := #[29] }, type := 34, pos := "law.go:95", after := #[{ on := 12, ground := Ground.data }, { on := 11, ground := Ground.chain }, { on := 11, ground := Ground.guard }], guard := some (11, false) }) (v := undef) rfl (by kernel_rfl) (by kernel_rfl) (by kernel_rfl) (fun _ _ _ h => h) (Or.inr ⟨by rfl, rfl⟩) (by assumption) ?_
            try simp only [Act.put, List.setIfInBounds_toArray, List.set_cons_zero, List.set_cons_succ]
            refine wpAnyH_take (i := 14) (oi := { dst := some 94, op := Op.load 34 (Operand.tmp 11), type := 34, pos := "law.go:95", after := #[{ on := 11, ground := Ground.guard }], guard := some (11, false) }) (v := undef) rfl (by kernel_rfl) (by kernel_rfl) (by kernel_rfl) (fun _ _ _ h => h) (Or.inr ⟨by rfl, rfl⟩) (by assumption) ?_
            try simp only [Act.put, List.setIfInBounds_toArray, List.set_cons_zero, List.set_cons_succ]
            refine wpAnyH_take (i := 15) (oi := { dst := some 95, op := Op.binOp BinOp.eql 34 (Operand.tmp 93) (Operand.tmp 94) 34, type := 4, pos := "law.go:95", after := #[{ on := 13, ground := Ground.data }, { on := 14, ground := Ground.data }, { on := 11, ground := Ground.guard }], guard := some (11, false) }) (v := undef) rfl (by kernel_rfl) (by kernel_rfl) (by kernel_rfl) (fun _ _ _ h => h) (Or.inr ⟨by rfl, rfl⟩) (by assumption) ?_
            try simp only [Act.put, List.setIfInBounds_toArray, List.set_cons_zero, List.set_cons_succ]
            refine wpAnyH_take (i := 16) (oi := { dst := some 96, op := Op.pick (Operand.tmp 91) (Operand.const (Value.bool true)) (Operand.tmp 95), type := 4, pos := "law.go:95", after := #[{ on := 11, ground := Ground.data }, { on := 15, ground := Ground.data }, { on := 6, ground := Ground.guard }], guard := some (6, true) }) (v := ?_) rfl (by kernel_rfl) (by kernel_rfl) (by kernel_rfl) (fun _ _ _ h => h) (Or.inl ⟨by rfl, ?_⟩) (by assumption) ?_
            rotate_left 1
            · (intro w' hSw; (try dsimp only at hSw); go_simp; try (with_reducible rfl))
            try simp only [Act.put, List.setIfInBounds_toArray, List.set_cons_zero, List.set_cons_succ]
            refine wpAnyH_take (i := 17) (oi := { dst := some 97, op := Op.pick (Operand.tmp 86) (Operand.tmp 96) (Operand.const (Value.bool false)), type := 4, pos := "law.go:95", after := #[{ on := 6, ground := Ground.data }, { on := 16, ground := Ground.data }], guard := none }) (v := ?_) rfl (by kernel_rfl) (by kernel_rfl) (by kernel_rfl) (fun _ _ _ h => h) (Or.inl ⟨by rfl, ?_⟩) (by assumption) ?_
            rotate_left 1
            · (intro w' hSw; (try dsimp only at hSw); go_simp; try (with_reducible rfl))
            try simp only [Act.put, List.setIfInBounds_toArray, List.set_cons_zero, List.set_cons_succ]
            refine wpAnyH_take (i := 18) (oi := { dst := some 6, op := Op.assign (Operand.tmp 97), type := 4, pos := "law.go:95", after := #[{ on := 17, ground := Ground.data }, { on := 13, ground := Ground.chain }, { on := 0, ground := Ground.phase }, { on := 1, ground := Ground.phase }, { on := 2, ground := Ground.phase }, { on := 3, ground := Ground.phase }, { on := 4, ground := Ground.phase }, { on := 5, ground := Ground.phase }, { on := 6, ground := Ground.phase }, { on := 7, ground := Ground.phase }, { on := 8, ground := Ground.phase }, { on := 9, ground := Ground.phase }, { on := 10, ground := Ground.phase }, { on := 11, ground := Ground.phase }, { on := 12, ground := Ground.phase }, { on := 13, ground := Ground.phase }, { on := 14, ground := Ground.phase }, { on := 15, ground := Ground.phase }, { on := 16, ground := Ground.phase }, { on := 17, ground := Ground.phase }], guard := none }) (v := ?_) rfl (by kernel_rfl) (by kernel_rfl) (by kernel_rfl) (fun _ _ _ h => h) (Or.inl ⟨by rfl, ?_⟩) (by assumption) ?_
            rotate_left 1
            · (intro w' hSw; (try dsimp only at hSw); go_simp; try (with_reducible rfl))
            try simp only [Act.put, List.setIfInBounds_toArray, List.set_cons_zero, List.set_cons_succ]
            refine wpAnyH_done (by kernel_rfl) ?_ _
            have S9 := Lib.hid (S8.out.below hb11)
            clear S8
            go_wp2
            exact bodyPost_ret (v := .bool true) (by simp [results, Tryd.results5, go_sem]) rfl ⟨rfl, S9.out.bw⟩

    · go_enter Tryd.func5, Tryd.ntmps5
      go_wp2_with fail
      refine (KA.out _ HT.out).mono ?_
      rintro x w2 ⟨rfl, hb2⟩
      have B2 := Lib.hid hb2
      clear hb2
      go_wp2
      go_ret
      exact ⟨rfl, B2.out⟩
  · go_enter Tryd.func5, Tryd.ntmps5
    go_wp2_with fail
    refine (KA.out _ HT.out).mono ?_
    rintro x w2 ⟨rfl, hb2⟩
    have B2 := Lib.hid hb2
    clear hb2
    go_wp2
    go_ret
    exact ⟨rfl, B2.out⟩
end Go.Proofs.YtpoagfldekppkaaDoor
