/-
  THE EXAMPLE OF law 14: awake.
-/
import Derived.Test.YtgabdlnbencglaaLkHolds
import Derived.Test.YtgabdlnbencglaaLkSame
namespace Go.Proofs.Ytgabdlnbencglaa
open Go.RowKit
def kA : ByteArray := ⟨#[97]⟩
def x1 : Wc := ⟨kA, false, 1⟩
def x2 : Wc := ⟨kA, true, 2⟩
def x3 : Wc := ⟨kA, false, 3⟩
/-- What the example's table is, behind the three that ask. -/
structure S3 (s : Lk) (w w2 w3 m K : Nat) : Prop where
  lk : s.lk kA = some K
  q0 : s.q 0 kA = [w]
  q1 : s.q 1 kA = []
  q2 : s.q 2 kA = [w2, w3]
  c1 : s.con w = x1
  c2 : s.con w2 = x2
  c3 : s.con w3 = x3
  hm : s.hm 1 = some m
  h1 : s.hd 1 kA = some w
  ho : ∀ k, k ≠ kA → s.hd 1 k = none
  h2 : ∀ k, s.hd 2 k = none
  h3 : ∀ k, s.hd 3 k = none
  t1 : s.wt 1 = none
noncomputable def stA (K m w : Nat) : Lk := heldS (lockS Lk.none kA K) m w x1
noncomputable def stB (K m w K2 w2 : Nat) : Lk := waitS (lockS (stA K m w) kA K2) w2 x2
noncomputable def stC (K m w K2 w2 K3 w3 : Nat) : Lk := waitS (lockS (stB K m w K2 w2) kA K3) w3 x3
theorem stA_q (K m w : Nat) : (stA K m w).q 0 kA = [w] ∧ (stA K m w).q 1 kA = [] ∧ (stA K m w).q 2 kA = [] ∧ (stA K m w).con w = x1 := by
  refine ⟨?_, ?_, ?_, ?_⟩ <;> simp [stA, heldS, lockS, Lk.none, updQ, updC, x1]
theorem stB_q (K m w K2 w2 : Nat) : (stB K m w K2 w2).q 0 kA = [w] ∧ (stB K m w K2 w2).q 1 kA = [] ∧ (stB K m w K2 w2).q 2 kA = [w2] := by
  refine ⟨?_, ?_, ?_⟩ <;> simp [stB, waitS, stA, heldS, lockS, Lk.none, updQ, x1, x2]
theorem stC_ok (K m w K2 w2 K3 w3 : Nat) (h12 : w2 ≠ w) (h13 : w3 ≠ w) (h23 : w3 ≠ w2) : S3 (stC K m w K2 w2 K3 w3) w w2 w3 m K3 := by
  have a1 := h12.symm
  have a2 := h13.symm
  have a3 := h23.symm
  constructor
  · simp [stC, waitS, lockS, updM]
  · simp [stC, stB, waitS, stA, heldS, lockS, Lk.none, updQ, x1, x2, x3]
  · simp [stC, stB, waitS, stA, heldS, lockS, Lk.none, updQ, x1, x2, x3]
  · simp [stC, stB, waitS, stA, heldS, lockS, Lk.none, updQ, x1, x2, x3]
  · simp [stC, stB, waitS, stA, heldS, lockS, updC, a1, a2]
  · simp [stC, stB, waitS, stA, heldS, lockS, updC, a3]
  · simp [stC, stB, waitS, stA, heldS, lockS, updC]
  · simp [stC, stB, waitS, stA, heldS, lockS, updM, x1]
  · simp [stC, stB, waitS, stA, heldS, lockS, updH, updM, x1]
  · intro k hk
    simp [stC, stB, waitS, stA, heldS, lockS, Lk.none, updH, updM, x1, hk]
  · intro k
    simp [stC, stB, waitS, stA, heldS, lockS, Lk.none, updH, x1]
  · intro k
    simp [stC, stB, waitS, stA, heldS, lockS, Lk.none, updH, x1]
  · simp [stC, stB, waitS, stA, heldS, lockS, Lk.none, updM, x1, x2, x3]
theorem wf1 : (Lit.int .i64 1).wf = true := by decide
theorem wf2 : (Lit.int .i64 2).wf = true := by decide
theorem wf3 : (Lit.int .i64 3).wf = true := by decide
/-- Who passes behind the first one. -/
theorem pass1 {s : Lk} {w w2 w3 m K : Nat} (h : S3 s w w2 w3 m K) : PassOk (goneS s kA ([] ++ []) 1) kA w2 K [w3] := by
  constructor
  · exact h.lk
  · simp [goneS, updQ, h.q1]
  · simp [goneS, updQ, h.q2]
  · show (s.con w2).k = kA
    rw [h.c2]; rfl
  · show clrH s.hd 1 (s.con w2).ow kA = none
    rw [h.c2]
    simp [clrH, x2, h.h2]
  · show (Lit.int .i64 (s.con w2).ow).wf = true
    rw [h.c2]; exact wf2
  · show freeB s.con (s.con w2) (updQ s.q 0 kA ([] ++ []) 0 kA) = true
    rw [updQ_same]; rfl
  · intro z r' e
    show freeB s.con (s.con z) (updQ s.q 0 kA ([] ++ []) 0 kA ++ [w2]) = false
    rw [updQ_same]
    injection e with e _
    rw [← e]
    simp [freeB, endsL, h.c2, h.c3, clash, x2, x3]
  · decide
structure S4 (s : Lk) (w2 w3 m K : Nat) : Prop where
  lk : s.lk kA = some K
  q0 : s.q 0 kA = [w2]
  q1 : s.q 1 kA = []
  q2 : s.q 2 kA = [w3]
  c3 : s.con w3 = x3
  hm : s.hm 2 = some m
  h1 : s.hd 2 kA = some w2
  ho : ∀ k, k ≠ kA → s.hd 2 k = none
  h3 : ∀ k, s.hd 3 k = none
  t2 : s.wt 2 = none
theorem pass1_s {s : Lk} {w w2 w3 m K m4 : Nat} (h : S3 s w w2 w3 m K) : S4 (passS (goneS s kA ([] ++ []) 1) kA w2 [w3] m4) w2 w3 m4 K := by
  obtain ⟨e0, e1, e2, e3, e4⟩ := pass_q (m := m4) (pass1 h)
  have g0 : (goneS s kA ([] ++ []) 1).q 0 kA = [] := by simp [goneS, updQ]
  refine ⟨e4, by rw [e0, g0]; rfl, e1, e2, by rw [e3]; exact h.c3, ?_, ?_, ?_, ?_, ?_⟩
  · simp [passS, heldS, leftS, goneS, h.c2, x2, updM]
  · simp [passS, heldS, leftS, goneS, h.c2, x2, updH, updM]
  · intro k hk
    simp [passS, heldS, leftS, goneS, h.c2, x2, updH, updM, hk, clrH, h.h2]
  · intro k
    simp [passS, heldS, leftS, goneS, h.c2, x2, updH, clrH, h.h3]
  · simp [passS, heldS, leftS, goneS, h.c2, x2, updM]
theorem pass2 {s : Lk} {w2 w3 m K : Nat} (h : S4 s w2 w3 m K) : PassOk (goneS s kA ([] ++ []) 2) kA w3 K [] := by
  constructor
  · exact h.lk
  · simp [goneS, updQ, h.q1]
  · simp [goneS, updQ, h.q2]
  · show (s.con w3).k = kA
    rw [h.c3]; rfl
  · show clrH s.hd 2 (s.con w3).ow kA = none
    rw [h.c3]
    simp [clrH, x3, h.h3]
  · show (Lit.int .i64 (s.con w3).ow).wf = true
    rw [h.c3]; exact wf3
  · show freeB s.con (s.con w3) (updQ s.q 0 kA ([] ++ []) 0 kA) = true
    rw [updQ_same]; rfl
  · intro z r' e
    cases e
  · decide
theorem pass2_s {s : Lk} {w2 w3 m K m5 : Nat} (h : S4 s w2 w3 m K) : (passS (goneS s kA ([] ++ []) 2) kA w3 [] m5).hm 3 = some m5 ∧ (passS (goneS s kA ([] ++ []) 2) kA w3 [] m5).hd 3 kA = some w3 ∧ (∀ k, k ≠ kA → (passS (goneS s kA ([] ++ []) 2) kA w3 [] m5).hd 3 k = none) ∧ w3 ∈ (passS (goneS s kA ([] ++ []) 2) kA w3 [] m5).q 0 kA := by
  obtain ⟨e0, _⟩ := pass_q (m := m5) (pass2 h)
  refine ⟨?_, ?_, ?_, ?_⟩
  · simp [passS, heldS, leftS, goneS, h.c3, x3, updM]
  · simp [passS, heldS, leftS, goneS, h.c3, x3, updH, updM]
  · intro k hk
    simp [passS, heldS, leftS, goneS, h.c3, x3, updH, updM, hk, clrH, h.h3]
  · rw [e0]; simp
end Go.Proofs.Ytgabdlnbencglaa
