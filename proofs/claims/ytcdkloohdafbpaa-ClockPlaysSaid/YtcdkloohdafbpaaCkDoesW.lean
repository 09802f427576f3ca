/-
  WHAT does OF law 09 KNOWS OF THE WORLD, AND HOW IT IS CARRIED.
-/
import Derived.Test.YtcdkloohdafbpaaCkNext
namespace Go.Proofs.Ytcdkloohdafbpaa
open Go.RowKit
structure Blk (b0 B C S P T M R : Nat) : Prop where
  lo : b0 ≤ C ∧ b0 ≤ S ∧ b0 ≤ P ∧ b0 ≤ T ∧ b0 ≤ M ∧ b0 ≤ R
  hi : C < B ∧ S < B ∧ P < B ∧ T < B ∧ M < B ∧ R < B
  dm : M ≠ C ∧ M ≠ S ∧ M ≠ P ∧ M ≠ T
  dr : R ≠ C ∧ R ≠ S ∧ R ≠ P ∧ R ≠ T
structure PlaysW (w W : World) (B C S P T M R n kk : Nat) (c : Clk) (ms : List Int) (vp vt : Value) (top : Int) (lp lt : List (Int × Int)) : Prop where
  cl : CAt W C S P T n kk c
  md : ModelAt W M R n ms vp vt top
  bw : Below w.heap.size w W
  rp : RowT W B vp lp
  rt : RowT W B vt lt
  bs : B ≤ W.heap.size
  bk : Blk w.heap.size B C S P T M R
/-- .. and the act's block. -/
structure DoesW (w W : World) (B C S P T M R n kk : Nat) (c : Clk) (ms : List Int) (vp vt : Value) (top : Int) (lp lt : List (Int × Int)) (G : Nat) (x : Ac) : Prop where
  pl : PlaysW w W B C S P T M R n kk c ms vp vt top lp lt
  si : Six W G x
  gB : B ≤ G
theorem RowT.set {W : World} {B : Nat} {v : Value} {l : List (Int × Int)} (h : RowT W B v l) (p : Addr) (u : Value) (hp : p.block < B) : RowT (W.setCell p u) B v l := by
  refine ⟨h.1, ?_⟩
  rcases h.2 with hn | ⟨g, cap, cur, rfl, hb, hgg, rest⟩
  · exact .inl hn
  · exact .inr ⟨g, cap, cur, rfl, hb, (Below.heap_setCell _ _ _ _ (by omega)).trans hgg, rest⟩
theorem Six.set {W : World} {b : Nat} {x : Ac} (h : Six W b x) (p : Addr) (u : Value) (hp : p.block ≠ b) : Six (W.setCell p u) b x :=
  have key : ∀ {i : Nat} {v : Value}, W.cell? ⟨b, i, none⟩ = some v → (W.setCell p u).cell? ⟨b, i, none⟩ = some v := fun hc => by
    rw [World.cell?_setCell_other _ _ _ _ (fun e => hp (by rw [e]))]; exact hc
  ⟨key h.1, key h.2.1, key h.2.2.1, key h.2.2.2.1, key h.2.2.2.2.1, key h.2.2.2.2.2⟩
theorem CAt.set {W : World} {C S P T n k : Nat} {c : Clk} (h : CAt W C S P T n k c) (p : Addr) (u : Value) (h1 : p.block ≠ C ∧ p.block ≠ S ∧ p.block ≠ P ∧ p.block ≠ T) : CAt (W.setCell p u) C S P T n k c :=
  ClockAt.of_blocks h (Below.heap_setCell _ _ _ _ (fun e => h1.1 e.symm)) (Below.heap_setCell _ _ _ _ (fun e => h1.2.1 e.symm)) (Below.heap_setCell _ _ _ _ (fun e => h1.2.2.1 e.symm)) (Below.heap_setCell _ _ _ _ (fun e => h1.2.2.2 e.symm))
section
variable {w W W' : World} {B C S P T M R n kk G : Nat} {c : Clk} {ms : List Int} {vp vt : Value} {top : Int} {lp lt : List (Int × Int)} {x : Ac}
theorem PlaysW.below (h : PlaysW w W B C S P T M R n kk c ms vp vt top lp lt) (hb : Below W.heap.size W W') : PlaysW w W' B C S P T M R n kk c ms vp vt top lp lt :=
  ⟨h.cl.below hb, h.md.below hb, h.bw.trans (hb.mono h.bw.size), h.rp.below hb, h.rt.below hb, Nat.le_trans h.bs hb.size, h.bk⟩
theorem DoesW.below (h : DoesW w W B C S P T M R n kk c ms vp vt top lp lt G x) (hb : Below W.heap.size W W') : DoesW w W' B C S P T M R n kk c ms vp vt top lp lt G x := ⟨h.pl.below hb, h.si.below hb, h.gB⟩
theorem DoesW.drew (h : DoesW w W B C S P T M R n kk c ms vp vt top lp lt G x) : DoesW w W.drew B C S P T M R n kk c ms vp vt top lp lt G x := h.below ((Below.refl _ _).drew)
theorem DoesW.clock (h : DoesW w W B C S P T M R n kk c ms vp vt top lp lt G x) {kk' : Nat} {c' : Clk} (hc : CAt W' C S P T n kk' c') (hf : Fr C S P T W W') : DoesW w W' B C S P T M R n kk' c' ms vp vt top lp lt G x := by
  obtain ⟨l1, l2, l3, l4, _, _⟩ := h.pl.bk.lo
  obtain ⟨q1, q2, q3, q4, _, _⟩ := h.pl.bk.hi
  have gB := h.gB
  exact ⟨⟨hc, h.pl.md.fr hf h.pl.bk.dm h.pl.bk.dr, h.pl.bw.trans (hf.below h.pl.bw.size l1 l2 l3 l4), h.pl.rp.fr hf q1 q2 q3 q4, h.pl.rt.fr hf q1 q2 q3 q4, Nat.le_trans h.pl.bs hf.size, h.pl.bk⟩,
    h.si.fr hf (by omega) (by omega) (by omega) (by omega), gB⟩
theorem DoesW.setR (h : DoesW w W B C S P T M R n kk c ms vp vt top lp lt G x) (i : Nat) (hi : i < n) (z : Int) : DoesW w (W.setCell ⟨R, i, none⟩ (.int .i64 z)) B C S P T M R n kk c (ms.set i z) vp vt top lp lt G x := by
  have q6 := h.pl.bk.hi.2.2.2.2.2
  have gB := h.gB
  exact ⟨⟨h.pl.cl.set _ _ h.pl.bk.dr, h.pl.md.setR i hi z, h.pl.bw.setCell h.pl.bk.lo.2.2.2.2.2 _, h.pl.rp.set _ _ q6, h.pl.rt.set _ _ q6, by simp only [World.setCell]; exact (by simpa [World.setCell] using h.pl.bs), h.pl.bk⟩, h.si.set _ _ (by show R ≠ G; omega), gB⟩
theorem DoesW.set3 (h : DoesW w W B C S P T M R n kk c ms vp vt top lp lt G x) (z : Int) : DoesW w (W.setCell ⟨M, 3, none⟩ (.int .i64 z)) B C S P T M R n kk c ms vp vt z lp lt G x := by
  have q5 := h.pl.bk.hi.2.2.2.2.1
  have gB := h.gB
  exact ⟨⟨h.pl.cl.set _ _ h.pl.bk.dm, h.pl.md.set3 z, h.pl.bw.setCell h.pl.bk.lo.2.2.2.2.1 _, h.pl.rp.set _ _ q5, h.pl.rt.set _ _ q5, by simpa [World.setCell] using h.pl.bs, h.pl.bk⟩, h.si.set _ _ (by show M ≠ G; omega), gB⟩
theorem DoesW.set1 (h : DoesW w W B C S P T M R n kk c ms vp vt top lp lt G x) {v : Value} {l : List (Int × Int)} (hv : RowT W B v l) : DoesW w (W.setCell ⟨M, 1, none⟩ v) B C S P T M R n kk c ms v vt top l lt G x := by
  have q5 := h.pl.bk.hi.2.2.2.2.1
  have gB := h.gB
  exact ⟨⟨h.pl.cl.set _ _ h.pl.bk.dm, h.pl.md.set1 v, h.pl.bw.setCell h.pl.bk.lo.2.2.2.2.1 _, hv.set _ _ q5, h.pl.rt.set _ _ q5, by simpa [World.setCell] using h.pl.bs, h.pl.bk⟩, h.si.set _ _ (by show M ≠ G; omega), gB⟩
theorem DoesW.set2 (h : DoesW w W B C S P T M R n kk c ms vp vt top lp lt G x) {v : Value} {l : List (Int × Int)} (hv : RowT W B v l) : DoesW w (W.setCell ⟨M, 2, none⟩ v) B C S P T M R n kk c ms vp v top lp l G x := by
  have q5 := h.pl.bk.hi.2.2.2.2.1
  have gB := h.gB
  exact ⟨⟨h.pl.cl.set _ _ h.pl.bk.dm, h.pl.md.set2 v, h.pl.bw.setCell h.pl.bk.lo.2.2.2.2.1 _, h.pl.rp.set _ _ q5, hv.set _ _ q5, by simpa [World.setCell] using h.pl.bs, h.pl.bk⟩, h.si.set _ _ (by show M ≠ G; omega), gB⟩
/-- with, of the pages: what the store behind it needs. -/
theorem DoesW.with1 (h : DoesW w W B C S P T M R n kk c ms vp vt top lp lt G x) (np : lp.length ≤ 1000) (key z : Int) :
    Calls Try.prog 17 #[vp, .int .i64 key, .int .i64 z] W fun e w' => ∃ (a : Option Addr) (N q : Nat), e = .returned (.slice a N q) ∧ w'.cell? ⟨M, 1, none⟩ = some vp ∧ w'.frozen? ⟨M, 1, none⟩ = false ∧ Hid (DoesW w (w'.setCell ⟨M, 1, none⟩ (.slice a N q)) B C S P T M R n kk c ms (.slice a N q) vt top (withL lp key z) lt G x) :=
  (with_row h.pl.rp np h.pl.bs key z).mono fun _ _ ⟨v', e, hr, hb⟩ => by
    obtain ⟨a, q, rfl, _⟩ := hr.at
    exact ⟨a, _, q, e, (h.below hb).pl.md.c1, (h.below hb).pl.md.mf 1, (h.below hb).set1 hr⟩
theorem DoesW.with2 (h : DoesW w W B C S P T M R n kk c ms vp vt top lp lt G x) (nt : lt.length ≤ 1000) (key z : Int) :
    Calls Try.prog 17 #[vt, .int .i64 key, .int .i64 z] W fun e w' => ∃ (a : Option Addr) (N q : Nat), e = .returned (.slice a N q) ∧ w'.cell? ⟨M, 2, none⟩ = some vt ∧ w'.frozen? ⟨M, 2, none⟩ = false ∧ Hid (DoesW w (w'.setCell ⟨M, 2, none⟩ (.slice a N q)) B C S P T M R n kk c ms vp (.slice a N q) top lp (withL lt key z) G x) :=
  (with_row h.pl.rt nt h.pl.bs key z).mono fun _ _ ⟨v', e, hr, hb⟩ => by
    obtain ⟨a, q, rfl, _⟩ := hr.at
    exact ⟨a, _, q, e, (h.below hb).pl.md.c2, (h.below hb).pl.md.mf 2, (h.below hb).set2 hr⟩
end
/-- What the rows say of a clock of n streams. -/
structure PlaysP (k n : Nat) (c : Clk) (lp lt : List (Int × Int)) : Prop where
  np : lp.length ≤ 11 * k
  nt : lt.length ≤ 11 * k
  fp : ∀ i, findL lp i = c.fp i
  ft : ∀ i, findL lt i = c.ft i
  gt : ∀ i, i < 0 → c.ft i = 0
theorem PlaysP.next {k n : Nat} {c : Clk} {lp lt : List (Int × Int)} (h : PlaysP k n c lp lt) : PlaysP (k + 1) n c lp lt := ⟨by have := h.np; omega, by have := h.nt; omega, h.fp, h.ft, h.gt⟩
theorem PlaysP.tick {k n : Nat} {c : Clk} {lp lt : List (Int × Int)} (h : PlaysP k n c lp lt) (s p t : Int) (ho : okT n c s p t = true) : PlaysP (k + 1) n (c.tick n s p t) (withL lp p (c.N n s p t)) (withL lt t (c.N n s p t)) := by
  have hN : c.N n s p t = nextV n c.ss c.fp c.ft s p t := by unfold Clk.N; rw [if_pos ho]
  unfold Clk.tick
  rw [if_pos ho, hN]
  generalize nextV n c.ss c.fp c.ft s p t = z
  refine ⟨?_, ?_, fun i => ?_, fun i => ?_, fun i hi => ?_⟩
  · have := withL_len lp p z; have := h.np; omega
  · have := withL_len lt t z; have := h.nt; omega
  · show findL (withL lp p z) i = updP c.fp p z i
    rw [findL_with, updP_at, h.fp]
  · show findL (withL lt t z) i = updP c.ft t z i
    rw [findL_with, updP_at, h.ft]
  · show updP c.ft t z i = 0
    rw [updP_at, if_neg (by omega)]; exact h.gt i hi
end Go.Proofs.Ytcdkloohdafbpaa
