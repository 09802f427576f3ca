/-
  THE WALK OF quadrigalaw09.ClockNone: of no clock nothing comes; it returns true, and writes nothing that was there.
-/
import Derived.Test.YtcdkloohdafbpaaCkLaw
namespace Go.Proofs.Ytcdkloohdafbpaa
open Go.RowKit
theorem nHas (s : Value) (w : World) : Calls Try.prog 26 #[.pointer none, s] w fun e w' => e = .returned (.bool false) ∧ w = w' := by
  have KM := Lib.hid (made_nil w)
  go_enter Try.func26, Try.ntmps26
  go_wp2_with fail
  refine KM.out.mono ?_
  rintro e w1 ⟨rfl, rfl⟩
  go_wp2
  go_ret
  exact ⟨rfl, rfl⟩
theorem nHas1 (i : Int) (W0 : World) : ∀ w, Below W0.heap.size W0 w → Calls Try.prog 26 #[.pointer none, .slice (some ⟨w.heap.size, 0, none⟩) 1 1] (w.alloc (.cells #[.int .i64 i] 3)) fun e w' => e = .returned (.bool false) ∧ Below W0.heap.size W0 w' := fun w hw =>
  (nHas _ _).mono fun _ _ ⟨a, b⟩ => ⟨a, by rw [← b]; exact hw.alloc hw.size _⟩
theorem nStream (i : Int) (W0 : World) : ∀ w, Below W0.heap.size W0 w → Calls Try.prog 15 #[.pointer none, .int .i64 i] w fun e w' => e = .returned (.int .i64 0) ∧ Below W0.heap.size W0 w' := fun w hw => by
  have KH := Lib.hid (nHas1 i W0 w hw)
  clear hw
  go_enter Try.func15, Try.ntmps15
  go_wp2_with fail
  refine KH.out.mono ?_
  rintro e w1 ⟨rfl, hb⟩
  go_wp2
  go_ret
  exact ⟨rfl, hb⟩
theorem nPeek (s p t : Int) (W0 : World) : ∀ w, Below W0.heap.size W0 w → Calls Try.prog 19 #[.pointer none, .int .i64 s, .int .i64 p, .int .i64 t] w fun e w' => e = .returned (.tuple #[.int .i64 0, .int .i64 1]) ∧ Below W0.heap.size W0 w' := fun w hw => by
  have KH := Lib.hid (nHas1 s W0 w hw)
  clear hw
  go_enter Try.func19, Try.ntmps19
  go_wp2_with fail
  refine KH.out.mono ?_
  rintro e w1 ⟨rfl, hb⟩
  go_wp2
  go_ret2
  exact ⟨rfl, hb⟩
theorem nTick (s p t : Int) (W0 : World) : ∀ w, Below W0.heap.size W0 w → Calls Try.prog 18 #[.pointer none, .int .i64 s, .int .i64 p, .int .i64 t] w fun e w' => e = .returned (.tuple #[.int .i64 0, .int .i64 1]) ∧ Below W0.heap.size W0 w' := fun w hw => by
  have KH := Lib.hid (nPeek s p t W0 w hw)
  clear hw
  go_enter Try.func18, Try.ntmps18
  go_wp2_with fail
  refine KH.out.mono ?_
  rintro e w1 ⟨rfl, hb⟩
  go_wp2
  go_ret2
  exact ⟨rfl, hb⟩
theorem nPage (p : Int) (w : World) : Calls Try.prog 12 #[.pointer none, .int .i64 p] w fun e w' => e = .returned (.int .i64 0) ∧ w = w' := by
  have KM := Lib.hid (made_nil w)
  go_enter Try.func12, Try.ntmps12
  go_wp2_with fail
  refine KM.out.mono ?_
  rintro e w1 ⟨rfl, rfl⟩
  go_wp2
  go_ret
  exact ⟨rfl, rfl⟩
theorem nTxn (p : Int) (w : World) : Calls Try.prog 14 #[.pointer none, .int .i64 p] w fun e w' => e = .returned (.int .i64 0) ∧ w = w' := by
  have KM := Lib.hid (made_nil w)
  go_enter Try.func14, Try.ntmps14
  go_wp2_with fail
  refine KM.out.mono ?_
  rintro e w1 ⟨rfl, rfl⟩
  go_wp2
  go_ret
  exact ⟨rfl, rfl⟩
theorem nTop (w : World) : Calls Try.prog 11 #[.pointer none] w fun e w' => e = .returned (.int .i64 0) ∧ w = w' := by
  have KM := Lib.hid (made_nil w)
  go_enter Try.func11, Try.ntmps11
  go_wp2_with fail
  refine KM.out.mono ?_
  rintro e w1 ⟨rfl, rfl⟩
  go_wp2
  go_ret
  exact ⟨rfl, rfl⟩
theorem nSees (t p : Int) (w : World) : Calls Try.prog 16 #[.pointer none, .int .i64 t, .int .i64 p] w fun e w' => e = .returned (.tuple #[]) ∧ w = w' := by
  have KM := Lib.hid (made_nil w)
  go_enter Try.func16, Try.ntmps16
  go_wp2_with fail
  refine KM.out.mono ?_
  rintro e w1 ⟨rfl, rfl⟩
  go_wp2
  refine bodyPost_ret (results_none rfl _ _ _) rfl ?_
  exact ⟨rfl, rfl⟩
theorem nTurn (p z : Int) (w : World) : Calls Try.prog 20 #[.pointer none, .int .i64 p, .int .i64 z] w fun e w' => e = .returned (.tuple #[]) ∧ w = w' := by
  have KM := Lib.hid (made_nil w)
  go_enter Try.func20, Try.ntmps20
  go_wp2_with fail
  refine KM.out.mono ?_
  rintro e w1 ⟨rfl, rfl⟩
  go_wp2
  refine bodyPost_ret (results_none rfl _ _ _) rfl ?_
  exact ⟨rfl, rfl⟩
theorem nDrop (s : Value) (w : World) : Calls Try.prog 21 #[.pointer none, s] w fun e w' => e = .returned (.tuple #[]) ∧ w = w' := by
  have KM := Lib.hid (made_nil w)
  go_enter Try.func21, Try.ntmps21
  go_wp2_with fail
  refine KM.out.mono ?_
  rintro e w1 ⟨rfl, rfl⟩
  go_wp2
  refine bodyPost_ret (results_none rfl _ _ _) rfl ?_
  exact ⟨rfl, rfl⟩
theorem nRaise (z : Int) (s : Value) (w : World) : Calls Try.prog 22 #[.pointer none, .int .i64 z, s] w fun e w' => e = .returned (.int .i64 1) ∧ w = w' := by
  have KH := Lib.hid (nHas s w)
  go_enter Try.func22, Try.ntmps22
  go_wp2_with fail
  refine KH.out.mono ?_
  rintro e w1 ⟨rfl, rfl⟩
  go_wp2
  go_ret
  exact ⟨rfl, rfl⟩
theorem newAc (w : World) (x : Ac) (T : TypeId) : AcCells (w.alloc (.cells x.cells T)) w.heap.size 0 x :=
  ⟨by simp [World.cell?_alloc_at, Ac.cells], by simp [World.cell?_alloc_at, Ac.cells], by simp [World.cell?_alloc_at, Ac.cells], by simp [World.cell?_alloc_at, Ac.cells], by simp [World.cell?_alloc_at, Ac.cells], by simp [World.cell?_alloc_at, Ac.cells]⟩
def Six (W : World) (b : Nat) (x : Ac) : Prop :=
  W.cell? ⟨b, 0, none⟩ = some (.int .i64 x.k) ∧ W.cell? ⟨b, 1, none⟩ = some (.int .i64 x.s) ∧ W.cell? ⟨b, 2, none⟩ = some (.int .i64 x.p) ∧ W.cell? ⟨b, 3, none⟩ = some (.int .i64 x.t) ∧ W.cell? ⟨b, 4, none⟩ = some (.int .i64 x.n) ∧ W.cell? ⟨b, 5, none⟩ = some (.slice x.ma x.ml.length x.mc)
theorem AcCells.six {W : World} {b : Nat} {x : Ac} (h : AcCells W b 0 x) : Six W b x := by
  obtain ⟨h0, h1, h2, h3, h4, h5⟩ := h
  simp only [Nat.zero_add] at h1 h2 h3 h4 h5
  exact ⟨h0, h1, h2, h3, h4, h5⟩
theorem Six.below {w w' : World} {b : Nat} {x : Ac} (h : Six w b x) (hb : Below w.heap.size w w') : Six w' b x :=
  have key : ∀ {p : Addr} {v : Value}, w.cell? p = some v → w'.cell? p = some v := fun hc => (hb.cell (block_lt' hc)).trans hc
  ⟨key h.1, key h.2.1, key h.2.2.1, key h.2.2.2.1, key h.2.2.2.2.1, key h.2.2.2.2.2⟩
set_option maxHeartbeats 2000000 in
theorem clockNone_walk (x : Ac) (w : World) (hx : AcOk w x) :
    Calls Try.prog 5 #[.agg x.cells] w fun e w' => e = .returned (.bool true) ∧ Below w.heap.size w w' := by
  have hb1 : Below w.heap.size w (w.alloc (.cells x.cells 34)) := (Below.refl _ _).alloc (Nat.le_refl _) _
  have hb2 : Below w.heap.size w ((w.alloc (.cells x.cells 34)).alloc (.cells x.cells 34)) := hb1.alloc hb1.size _
  have a1 := newAc w x 34
  have a2 := newAc (w.alloc (.cells x.cells 34)) x 34
  have a3 : AcCells ((w.alloc (.cells x.cells 34)).alloc (.cells x.cells 34)) w.heap.size 0 x := a1.below ((Below.refl _ _).alloc (Nat.le_refl _) _)
  have KG := Lib.hid ((great_any (some ⟨(w.alloc (.cells x.cells 34)).heap.size, 0, none⟩) [x] 1 ((w.alloc (.cells x.cells 34)).alloc (.cells x.cells 34)) (by simp [maxLen])
    ⟨fun y hy => by rw [List.mem_singleton] at hy; rw [hy]; exact hx.below hb2, .inr ⟨_, 0, rfl, fun i hi => by
      have : i = 0 := by simp at hi; exact hi
      subst this; exact a2⟩⟩).mono fun e w' hh => (⟨hh.1, by rw [← hh.2]; exact hb2, by rw [← hh.2]; exact Lib.hid a3.six⟩ : e = .returned (.bool (greatB [x])) ∧ Below w.heap.size w w' ∧ Hid (Six w' w.heap.size x)))
  have KA := Lib.hid (fun W (hW : Below w.heap.size w W) => (awake_any W).mono fun e w' h => (⟨h.1, hW.trans (h.2.mono hW.size)⟩ : e = .returned (.bool true) ∧ Below w.heap.size w w'))
  rw [World.size_alloc] at KG
  clear hb1 hb2 a1 a2 a3 hx
  generalize greatB [x] = g at KG
  have HS : Hid (∀ W0 : World, Hid (Six W0 w.heap.size x) → ∀ W, Below W0.heap.size W0 W → Six W w.heap.size x) := fun W0 h W hW => h.out.below hW
  simp only [Ac.cells, Six] at KG HS ⊢
  have KG : Hid (Calls Try.prog 7 #[.slice (some ⟨w.heap.size + 1, 0, none⟩) 1 1] _ _) := KG
  generalize x.ml.length = len at KG HS ⊢
  generalize x.k = k at KG HS ⊢
  generalize x.s = s at KG HS ⊢
  generalize x.p = p at KG HS ⊢
  generalize x.t = t at KG HS ⊢
  generalize x.n = n at KG HS ⊢
  generalize x.ma = ma at KG HS ⊢
  generalize x.mc = mc at KG HS ⊢
  have NT := Lib.hid (nTick s p t)
  have NP := Lib.hid (nPeek s p t)
  have NS := Lib.hid (nSees t p)
  have NU := Lib.hid (nTurn p n)
  have ND := Lib.hid (nDrop (.slice ma len mc))
  have NR := Lib.hid (nRaise n (.slice ma len mc))
  have NM := Lib.hid (nStream s)
  have NG := Lib.hid (nPage p)
  have NX := Lib.hid (nTxn t)
  have NO := Lib.hid nTop
  go_enter Try.func5, Try.ntmps5
  go_wp2_with fail
  refine KG.out.mono ?_
  rintro e w2 ⟨rfl, hb, hs⟩
  have HB := Lib.hid hb; clear hb KG
  have HF := Lib.hid (HS.out w2 hs); clear HS hs
  cases g with
  | true =>
    go_wp2_with fail
    refine (KA.out _ HB.out).mono ?_
    rintro e w3 ⟨rfl, hb⟩
    go_wp2
    go_ret
    exact ⟨rfl, hb⟩
  | false =>
    have HR : Hid (Below w2.heap.size w2 w2) := Below.refl _ _
    obtain ⟨c0, c1, c2, c3, c4, c5⟩ := HF.out _ HR.out
    go_wp2_with fail
    refine (NT.out _ _ HR.out).mono ?_
    rintro e w3 ⟨rfl, hr⟩
    have HR := Lib.hid hr; clear hr c0 c1 c2 c3 c4 c5
    obtain ⟨c0, c1, c2, c3, c4, c5⟩ := HF.out _ HR.out
    go_wp2_with fail
    refine (NP.out _ _ HR.out).mono ?_
    rintro e w3 ⟨rfl, hr⟩
    have HR := Lib.hid hr; clear hr c0 c1 c2 c3 c4 c5
    obtain ⟨c0, c1, c2, c3, c4, c5⟩ := HF.out _ HR.out
    go_wp2_with fail
    refine (NS.out _).mono ?_
    rintro e w3 ⟨rfl, rfl⟩
    go_wp2_with fail
    refine (NU.out _).mono ?_
    rintro e w3 ⟨rfl, rfl⟩
    go_wp2_with fail
    refine (ND.out _).mono ?_
    rintro e w3 ⟨rfl, rfl⟩
    go_wp2_with fail
    refine (NR.out _).mono ?_
    rintro e w3 ⟨rfl, rfl⟩
    go_wp2_with fail
    refine (NM.out _ _ HR.out).mono ?_
    rintro e w3 ⟨rfl, hr⟩
    have HR := Lib.hid hr; clear hr c0 c1 c2 c3 c4 c5
    obtain ⟨c0, c1, c2, c3, c4, c5⟩ := HF.out _ HR.out
    go_wp2_with fail
    refine (NG.out _).mono ?_
    rintro e w3 ⟨rfl, rfl⟩
    go_wp2_with fail
    refine (NX.out _).mono ?_
    rintro e w3 ⟨rfl, rfl⟩
    go_wp2_with fail
    refine (NO.out _).mono ?_
    rintro e w3 ⟨rfl, rfl⟩
    have HB2 := Lib.hid (HB.out.trans (HR.out.mono HB.out.size))
    go_wp2_with fail
    refine (KA.out _ HB2.out).mono ?_
    rintro e w4 ⟨rfl, hb⟩
    go_wp2
    go_ret
    exact ⟨rfl, hb⟩
end Go.Proofs.Ytcdkloohdafbpaa
