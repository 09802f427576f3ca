/-
  does OF law 09: a Drop.
-/
import Derived.Test.YtcdkloohdafbpaaCkDropA
namespace Go.Proofs.Ytcdkloohdafbpaa
open Go.RowKit
/-- A row of ints in a block of its own. -/
structure RowD (W : World) (g : Nat) (l : List Int) : Prop where
  c : ∀ i, i < l.length → W.cell? ⟨g, i, none⟩ = some (.int .i64 (l.getD i 0))
theorem RowD.below {W W' : World} {g : Nat} {l : List Int} (h : RowD W g l) (hb : Below W.heap.size W W') : RowD W' g l := ⟨fun i hi => keepC hb (h.c i hi)⟩
theorem RowD.set {W : World} {g : Nat} {l : List Int} (h : RowD W g l) (p : Addr) (v : Value) (hp : p.block ≠ g) : RowD (W.setCell p v) g l :=
  ⟨fun i hi => by rw [World.cell?_setCell_other _ _ _ _ (fun e => hp (by rw [e]))]; exact h.c i hi⟩
theorem RowD.fr {W W' : World} {C S P T g : Nat} {l : List Int} (h : RowD W g l) (hf : Fr C S P T W W') (h1 : g ≠ C ∧ g ≠ S ∧ g ≠ P ∧ g ≠ T) : RowD W' g l :=
  ⟨fun i hi => (World.cell?_of_block (a := ⟨g, i, none⟩) (hf.block g (block_lt' (h.c i hi)) h1.1 h1.2.1 h1.2.2.1 h1.2.2.2)).trans (h.c i hi)⟩
theorem RowD.ints {W : World} {g : Nat} {l : List Int} (h : RowD W g l) : IntsAt W (some ⟨g, 0, none⟩) l := .inr ⟨g, 0, rfl, fun i hi => by rw [Nat.zero_add]; exact h.c i hi⟩
theorem rowD_of {W : World} {base : Nat} {v : Value} {l : List Int} (h : W.ownsRow base 3 1 v l.length (vals l)) (h0 : 0 < l.length) : ∃ g cap, v = .slice (some ⟨g, 0, none⟩) l.length cap ∧ base ≤ g ∧ RowD W g l := by
  rcases h.2 with ⟨hv, hn⟩ | ⟨g, c, cur, hv, hb, _⟩
  · omega
  · subst hv
    exact ⟨g, c, rfl, hb, ⟨fun i hi => by rw [h.cellAt i (by omega), vals_get l i hi]⟩⟩
/-- What the rows say while transactions are dropped. -/
structure DropP (k j : Nat) (c : Clk) (lp lt : List (Int × Int)) (l : List Int) : Prop where
  np : lp.length ≤ 11 * k
  nt : lt.length ≤ 11 * k + j
  fp : ∀ i, findL lp i = c.fp i
  ft : ∀ i, findL lt i = dropL c.ft (l.take j) i
  gt : ∀ i, i < 0 → dropL c.ft (l.take j) i = 0
theorem DropP.begin {k n : Nat} {c : Clk} {lp lt : List (Int × Int)} (h : PlaysP k n c lp lt) (l : List Int) : DropP k 0 c lp lt l :=
  ⟨h.np, h.nt, h.fp, by rw [List.take_zero]; exact h.ft, by rw [List.take_zero]; exact h.gt⟩
theorem DropP.step {k j : Nat} {c : Clk} {lp lt : List (Int × Int)} {l : List Int} (h : DropP k j c lp lt l) (hlt : j < l.length) : DropP k (j + 1) c lp (withL lt (l.getD j 0) 0) l := by
  have hd : dropL c.ft (l.take (j + 1)) = updI (dropL c.ft (l.take j)) (l.getD j 0) 0 := by rw [take_one l j hlt]; unfold dropL; rw [List.foldl_append]; rfl
  have hg : ∀ i, i < 0 → dropL c.ft (l.take (j + 1)) i = 0 := fun i hi => by
    rw [hd]; unfold updI; split
    · rfl
    · exact h.gt i hi
  refine ⟨h.np, by have := withL_len lt (l.getD j 0) 0; have := h.nt; omega, h.fp, fun i => ?_, hg⟩
  rw [findL_with, h.ft, hd]; unfold updI
  by_cases e : i = l.getD j 0
  · by_cases h0 : 0 ≤ l.getD j 0
    · rw [if_pos ⟨h0, e⟩, if_pos e]
    · rw [if_neg (by omega), if_pos e]; exact h.gt i (by omega)
  · rw [if_neg (by omega), if_neg e]
theorem DropP.done {k n : Nat} {c : Clk} {lp lt : List (Int × Int)} {l : List Int} (h : DropP k l.length c lp lt l) (h11 : l.length ≤ 11) : PlaysP (k + 1) n (c.drop l) lp lt := by
  have e : l.take l.length = l := List.take_length
  have h3 := h.ft
  have h4 := h.gt
  rw [e] at h3 h4
  exact ⟨by have := h.np; omega, by have := h.nt; omega, h.fp, h3, h4⟩
theorem DoesW.with2g {w W : World} {B C S P T M R n kk G : Nat} {c : Clk} {ms : List Int} {vp vt : Value} {top : Int} {lp lt : List (Int × Int)} {x : Ac} (h : DoesW w W B C S P T M R n kk c ms vp vt top lp lt G x) (nt : lt.length ≤ 1000) (key z : Int) :
    Calls Try.prog 17 #[vt, .int .i64 key, .int .i64 z] W fun e w' => ∃ (a : Option Addr) (N q : Nat), e = .returned (.slice a N q) ∧ w'.cell? ⟨M, 2, none⟩ = some vt ∧ w'.frozen? ⟨M, 2, none⟩ = false ∧ Hid (Below W.heap.size W w') ∧ Hid (DoesW w (w'.setCell ⟨M, 2, none⟩ (.slice a N q)) B C S P T M R n kk c ms vp (.slice a N q) top lp (withL lt key z) G x) :=
  (with_row h.pl.rt nt h.pl.bs key z).mono fun _ _ ⟨v', e, hr, hb⟩ => by
    obtain ⟨a, q, rfl, _⟩ := hr.at
    have h1 := h.below hb
    exact ⟨a, _, q, e, h1.pl.md.c2, h1.pl.md.mf 2, hb, h1.set2 hr⟩
set_option maxRecDepth 100000 in
set_option maxHeartbeats 4000000 in
theorem does_drop {w W : World} {B C S P T M R n kk k : Nat} {c : Clk} {lp lt : List (Int × Int)} (h : Plays w W B C S P T M R n kk c lp lt) (pr : PlaysP k n c lp lt) (hk : k ≤ 60) (hkk : kk ≤ 1000) (x : Ac) (hx : AcOk w x) (h5 : x.k ≠ 0 ∧ x.k ≠ 1 ∧ x.k ≠ 2 ∧ x.k ≠ 3 ∧ x.k ≠ 4) (h10 : x.ml.length ≤ 10) :
    Calls Try.prog 10 #[.pointer (some ⟨C, 0, none⟩), .pointer (some ⟨M, 0, none⟩), .agg x.cells] W fun e w' => e = .returned (.bool true) ∧ ∃ c' lp' lt', Plays w w' B C S P T M R n (kk + 11) c' lp' lt' ∧ PlaysP (k + 1) n c' lp' lt' := by
  obtain ⟨vp, vt, st0⟩ := h
  have st := DoesW.enter st0 x 34
  have hss : c.ss.length = n := ClockAt.sl st0.cl
  obtain ⟨xk, xs, xp, xt, xn, ma, ml, mc⟩ := x
  dsimp only at h5 h10 st
  have HI := Lib.hid hx.a
  obtain ⟨l, hl⟩ : ∃ l, l = xt :: ml := ⟨_, rfl⟩
  have HZ : Hid (Ints64 l) := fun z hz => by
    rw [hl] at hz
    rcases List.mem_cons.1 hz with rfl | hz
    · exact hx.t
    · exact hx.z z hz
  dsimp only at HI
  clear hx st0
  obtain ⟨q0, q1, q2, q3, q4⟩ := h5
  have q0 : (xk == 0) = false := by rw [beq_eq_false_iff_ne]; exact q0
  have q1 : (xk == 1) = false := by rw [beq_eq_false_iff_ne]; exact q1
  have q2 : (xk == 2) = false := by rw [beq_eq_false_iff_ne]; exact q2
  have q3 : (xk == 3) = false := by rw [beq_eq_false_iff_ne]; exact q3
  have q4 : (xk == 4) = false := by rw [beq_eq_false_iff_ne]; exact q4
  simp only [Ac.cells] at st ⊢
  have hlen : l.length ≤ 11 := by rw [hl]; simp only [List.length_cons]; omega
  have KD := Lib.hid (fun W1 (s1 : DoesW w W1 B C S P T M R n kk c c.ss vp vt c.top lp lt W.heap.size ⟨xk, xs, xp, xt, xn, ma, ml, mc⟩) g (hg : W.heap.size ≤ g) cap (hd : RowD W1 g l) => (drop_all s1.pl.cl (some ⟨g, 0, none⟩) l cap (by unfold maxLen; omega) HZ.out (fun W' hf => (hd.fr hf (by obtain ⟨l1, l2, l3, l4, _, _⟩ := s1.pl.bk.hi; have := s1.gB; omega)).ints)).mono fun e w' hh => (⟨hh.1, Lib.hid (s1.clock hh.2.1 hh.2.2), Lib.hid (hd.fr hh.2.2 (by obtain ⟨l1, l2, l3, l4, _, _⟩ := s1.pl.bk.hi; have := s1.gB; omega))⟩ : e = .returned (.tuple #[]) ∧ Hid (DoesW w w' B C S P T M R n (kk + l.length) (c.drop l) c.ss vp vt c.top lp lt W.heap.size ⟨xk, xs, xp, xt, xn, ma, ml, mc⟩) ∧ Hid (RowD w' g l)))
  have hl0 : 0 < l.length := by rw [hl]; exact Nat.succ_pos _
  have PD := Lib.hid (DropP.begin pr l)
  have hss1 : (c.drop l).ss = c.ss ∧ (c.drop l).top = c.top := ⟨rfl, rfl⟩
  have hnk : 11 * k ≤ 700 := by omega
  have hxn : (0 ≤ xn ∧ xn ≤ 4611686018427387903) ∨ (0 ≤ xn ∧ 4611686018427387903 < xn) ∨ xn < 0 := by omega
  rcases hxn with ⟨hn0, hn1⟩ | ⟨hn0, hn1⟩ | hn0
  all_goals (
    have s0 := Lib.hid st; clear st
    go_enter Try.func10, Try.ntmps10
    obtain ⟨c0, c1, c2, c3, c4, c5⟩ := s0.out.si
    go_upto_region 1 with fail
    obtain ⟨mA, hmA⟩ : ∃ wA, wA = (W.alloc (.cells #[.int .i64 xk, .int .i64 xs, .int .i64 xp, .int .i64 xt, .int .i64 xn, .slice ma ml.length mc] 34)) := ⟨_, rfl⟩
    rw [← hmA] at s0 c0 c1 c2 c3 c4 c5 ⊢
    clear hmA
    have hsz : W.heap.size ≤ mA.heap.size := Nat.le_of_lt (block_lt' c0)
    have c6 : (mA.alloc (.cells #[.int .i64 xt] 3)).cell? ⟨W.heap.size, 5, none⟩ = some (.slice ma ml.length mc) := keep_alloc c5
    have HI1 : IntsAt (mA.alloc (.cells #[.int .i64 xt] 3)) ma ml := HI.out.below (s0.out.pl.bw.trans (((Below.refl _ _).alloc (Nat.le_refl _) _).mono s0.out.pl.bw.size))
    have hB1 : mA.heap.size ≤ (mA.alloc (.cells #[.int .i64 xt] 3)).heap.size := by rw [World.size_alloc]; omega
    have hl1 : [xt].length + ml.length ≤ 1000 := by show 1 + ml.length ≤ 1000; omega
    have OL : (mA.alloc (.cells #[.int .i64 xt] 3)).ownsRow mA.heap.size 3 1 (.slice (some ⟨mA.heap.size, 0, none⟩) 1 1) [xt].length (vals [xt]) := World.ownsRow_lit mA #[.int .i64 xt] 1 (Nat.le_refl _) (by decide) rfl
    go_wp2_with (at_builtin; refine append_ints rfl _ _ rfl mA.heap.size _ [xt] rfl OL ma ml mc rfl HI1 hl1 hB1 ?_)
    intro v1 w1 hown hgrow
    have hbn : Below mA.heap.size mA w1 := ((Below.refl _ _).alloc (Nat.le_refl _) _).grown hgrow (by rw [World.size_alloc]; omega) (fun k hk => (OL.lt k hk).1)
    have s1 := Lib.hid (s0.out.below hbn)
    have hown2 : w1.ownsRow mA.heap.size 3 1 v1 l.length (vals l) := by rw [hl]; exact hown
    obtain ⟨g, cap, rfl, hg, hd⟩ := rowD_of hown2 hl0
    clear hl hl0
    have KD1 := Lib.hid (KD.out w1 s1.out g (by omega) cap hd)
    have HD := Lib.hid hd
    clear s0 c0 c1 c2 c3 c4 c5 c6 hown hown2 hgrow HI1 hB1 hl1 OL hbn KD hd HI
    obtain ⟨d0, d1, d2, d3, d4, d5⟩ := s1.out.si
    go_wp2_with fail
    refine KD1.out.mono ?_
    rintro e w2 ⟨rfl, s2, hd2⟩
    have hgM : M ≠ g := by have := s2.out.pl.bk.hi.2.2.2.2.1; have := s2.out.gB; omega
    clear s1 HD KD1 d0 d1 d2 d3 d4 d5 hg
    have HF := Lib.hid (fun lt' (h : DropP k l.length c lp lt' l) => (h.done hlen : PlaysP (k + 1) n _ lp lt'))
    have HC := Lib.hid hss1
    clear hss1
    generalize c.drop l = c' at *
    go_wp2
    go_loopw [21] (fun i wr => ∃ (j : Nat) (vt' : Value) (lt' : List (Int × Int)), j ≤ l.length ∧ i = .int .i64 j ∧ Hid (DoesW w wr B C S P T M R n (kk + l.length) c' c.ss vp vt' c.top lp lt' W.heap.size ⟨xk, xs, xp, xt, xn, ma, ml, mc⟩) ∧ Hid (DropP k j c lp lt' l) ∧ Hid (RowD wr g l)) (fun i _ => l.length - (intOf i).toNat)
    case atStart => exact ⟨0, vt, lt, Nat.zero_le _, rfl, s2, PD, hd2⟩
    case round =>
      obtain ⟨j, vt', lt', hj, rfl, s3, pd, hd3⟩ := hrel
      clear s2 PD hd2
      by_cases hlt : j < l.length
      · have hc := hd3.out.c j hlt
        have PS := Lib.hid (pd.out.step hlt)
        have hnt' : lt'.length ≤ 1000 := by have := pd.out.nt; omega
        have K2 := Lib.hid (s3.out.drew.with2g hnt' (l.getD j 0) 0)
        have HDD := Lib.hid (fun (w6 : World) (v : Value) (hb : Below wr.drew.heap.size wr.drew w6) => ((hd3.out.below ((Below.refl _ _).drew)).below hb).set ⟨M, 2, none⟩ v hgM)
        have f1 := s3.out.pl.md.c2
        clear s3 pd hd3 HF HC
        generalize l.getD j 0 = z at hc K2 PS
        go_wp2_with fail
        go_region_with (go_at_call 17; refine K2.out.mono ?_; rintro e w6 ⟨a2, n2, q2, rfl, f1, f2, hb6, s6⟩)
        all_goals (
          have hd6 := Lib.hid (HDD.out _ (.slice a2 n2 q2) hb6.out)
          go_wp2
          go_roundw
          case rel => exact ⟨j + 1, _, _, by omega, by go_num, s6, PS, hd6⟩
          case measure => simp [intOf]; omega)
      · have hje : j = l.length := by omega
        subst hje
        go_wp2
        trace_state
        go_ret
        exact ⟨rfl, c', _, _, ⟨_, _, by rw [HC.out.1, HC.out.2]; exact s3.out.pl.mono (by omega)⟩, HF.out _ pd.out⟩)
end Go.Proofs.Ytcdkloohdafbpaa
