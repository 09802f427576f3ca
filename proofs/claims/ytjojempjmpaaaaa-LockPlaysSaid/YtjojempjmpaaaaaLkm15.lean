/-
  THE EXAMPLE OF law 14: awake.
  THE WALK OF law 14's awake.
-/
import Derived.Test.YtjojempjmpaaaaaLkm10
import Derived.Test.YtjojempjmpaaaaaLkSame
namespace Go.Proofs.Ytjojempjmpaaaaa
open Go.RowKit
def kA : ByteArray := ⟨#[97]⟩
def x1 : Wc := ⟨kA, false, 1⟩
def x2 : Wc := ⟨kA, true, 2⟩
def x3 : Wc := ⟨kA, false, 3⟩
/-- What the example's table is, behind the three that ask. -/
structure S3 (s : Lk) (w w2 w3 m K : Nat) : Prop where
  lk : s.lk kA = some K
  q0 : s.q 0 kA = [w]
  q1 : s.q 1 kA = []
  q2 : s.q 2 kA = [w2, w3]
  c1 : s.con w = x1
  c2 : s.con w2 = x2
  c3 : s.con w3 = x3
  hm : s.hm 1 = some m
  h1 : s.hd 1 kA = some w
  ho : ∀ k, k ≠ kA → s.hd 1 k = none
  h2 : ∀ k, s.hd 2 k = none
  h3 : ∀ k, s.hd 3 k = none
  t1 : s.wt 1 = none
noncomputable def stA (K m w : Nat) : Lk := heldS (lockS Lk.none kA K) m w x1
noncomputable def stB (K m w K2 w2 : Nat) : Lk := waitS (lockS (stA K m w) kA K2) w2 x2
noncomputable def stC (K m w K2 w2 K3 w3 : Nat) : Lk := waitS (lockS (stB K m w K2 w2) kA K3) w3 x3
theorem stA_q (K m w : Nat) : (stA K m w).q 0 kA = [w] ∧ (stA K m w).q 1 kA = [] ∧ (stA K m w).q 2 kA = [] ∧ (stA K m w).con w = x1 := by
  refine ⟨?_, ?_, ?_, ?_⟩ <;> simp [stA, heldS, lockS, Lk.none, updQ, updC, x1]
theorem stB_q (K m w K2 w2 : Nat) : (stB K m w K2 w2).q 0 kA = [w] ∧ (stB K m w K2 w2).q 1 kA = [] ∧ (stB K m w K2 w2).q 2 kA = [w2] := by
  refine ⟨?_, ?_, ?_⟩ <;> simp [stB, waitS, stA, heldS, lockS, Lk.none, updQ, x1, x2]
theorem stC_ok (K m w K2 w2 K3 w3 : Nat) (h12 : w2 ≠ w) (h13 : w3 ≠ w) (h23 : w3 ≠ w2) : S3 (stC K m w K2 w2 K3 w3) w w2 w3 m K3 := by
  have a1 := h12.symm
  have a2 := h13.symm
  have a3 := h23.symm
  constructor
  · simp [stC, waitS, lockS, updM]
  · simp [stC, stB, waitS, stA, heldS, lockS, Lk.none, updQ, x1, x2, x3]
  · simp [stC, stB, waitS, stA, heldS, lockS, Lk.none, updQ, x1, x2, x3]
  · simp [stC, stB, waitS, stA, heldS, lockS, Lk.none, updQ, x1, x2, x3]
  · simp [stC, stB, waitS, stA, heldS, lockS, updC, a1, a2]
  · simp [stC, stB, waitS, stA, heldS, lockS, updC, a3]
  · simp [stC, stB, waitS, stA, heldS, lockS, updC]
  · simp [stC, stB, waitS, stA, heldS, lockS, updM, x1]
  · simp [stC, stB, waitS, stA, heldS, lockS, updH, updM, x1]
  · intro k hk
    simp [stC, stB, waitS, stA, heldS, lockS, Lk.none, updH, updM, x1, hk]
  · intro k
    simp [stC, stB, waitS, stA, heldS, lockS, Lk.none, updH, x1]
  · intro k
    simp [stC, stB, waitS, stA, heldS, lockS, Lk.none, updH, x1]
  · simp [stC, stB, waitS, stA, heldS, lockS, Lk.none, updM, x1, x2, x3]
theorem wf1 : (Lit.int .i64 1).wf = true := by decide
theorem wf2 : (Lit.int .i64 2).wf = true := by decide
theorem wf3 : (Lit.int .i64 3).wf = true := by decide
/-- Who passes behind the first one. -/
theorem pass1 {s : Lk} {w w2 w3 m K : Nat} (h : S3 s w w2 w3 m K) : PassOk (goneS s kA ([] ++ []) 1) kA w2 K [w3] := by
  constructor
  · exact h.lk
  · simp [goneS, updQ, h.q1]
  · simp [goneS, updQ, h.q2]
  · show (s.con w2).k = kA
    rw [h.c2]; rfl
  · show clrH s.hd 1 (s.con w2).ow kA = none
    rw [h.c2]
    simp [clrH, x2, h.h2]
  · show (Lit.int .i64 (s.con w2).ow).wf = true
    rw [h.c2]; exact wf2
  · show freeB s.con (s.con w2) (updQ s.q 0 kA ([] ++ []) 0 kA) = true
    rw [updQ_same]; rfl
  · intro z r' e
    show freeB s.con (s.con z) (updQ s.q 0 kA ([] ++ []) 0 kA ++ [w2]) = false
    rw [updQ_same]
    injection e with e _
    rw [← e]
    simp [freeB, endsL, h.c2, h.c3, clash, x2, x3]
  · decide
structure S4 (s : Lk) (w2 w3 m K : Nat) : Prop where
  lk : s.lk kA = some K
  q0 : s.q 0 kA = [w2]
  q1 : s.q 1 kA = []
  q2 : s.q 2 kA = [w3]
  c3 : s.con w3 = x3
  hm : s.hm 2 = some m
  h1 : s.hd 2 kA = some w2
  ho : ∀ k, k ≠ kA → s.hd 2 k = none
  h3 : ∀ k, s.hd 3 k = none
  t2 : s.wt 2 = none
theorem pass1_s {s : Lk} {w w2 w3 m K m4 : Nat} (h : S3 s w w2 w3 m K) : S4 (passS (goneS s kA ([] ++ []) 1) kA w2 [w3] m4) w2 w3 m4 K := by
  obtain ⟨e0, e1, e2, e3, e4⟩ := pass_q (m := m4) (pass1 h)
  have g0 : (goneS s kA ([] ++ []) 1).q 0 kA = [] := by simp [goneS, updQ]
  refine ⟨e4, by rw [e0, g0]; rfl, e1, e2, by rw [e3]; exact h.c3, ?_, ?_, ?_, ?_, ?_⟩
  · simp [passS, heldS, leftS, goneS, h.c2, x2, updM]
  · simp [passS, heldS, leftS, goneS, h.c2, x2, updH, updM]
  · intro k hk
    simp [passS, heldS, leftS, goneS, h.c2, x2, updH, updM, hk, clrH, h.h2]
  · intro k
    simp [passS, heldS, leftS, goneS, h.c2, x2, updH, clrH, h.h3]
  · simp [passS, heldS, leftS, goneS, h.c2, x2, updM]
theorem pass2 {s : Lk} {w2 w3 m K : Nat} (h : S4 s w2 w3 m K) : PassOk (goneS s kA ([] ++ []) 2) kA w3 K [] := by
  constructor
  · exact h.lk
  · simp [goneS, updQ, h.q1]
  · simp [goneS, updQ, h.q2]
  · show (s.con w3).k = kA
    rw [h.c3]; rfl
  · show clrH s.hd 2 (s.con w3).ow kA = none
    rw [h.c3]
    simp [clrH, x3, h.h3]
  · show (Lit.int .i64 (s.con w3).ow).wf = true
    rw [h.c3]; exact wf3
  · show freeB s.con (s.con w3) (updQ s.q 0 kA ([] ++ []) 0 kA) = true
    rw [updQ_same]; rfl
  · intro z r' e
    cases e
  · decide
theorem pass2_s {s : Lk} {w2 w3 m K m5 : Nat} (h : S4 s w2 w3 m K) : (passS (goneS s kA ([] ++ []) 2) kA w3 [] m5).hm 3 = some m5 ∧ (passS (goneS s kA ([] ++ []) 2) kA w3 [] m5).hd 3 kA = some w3 ∧ (∀ k, k ≠ kA → (passS (goneS s kA ([] ++ []) 2) kA w3 [] m5).hd 3 k = none) ∧ w3 ∈ (passS (goneS s kA ([] ++ []) 2) kA w3 [] m5).q 0 kA := by
  obtain ⟨e0, _⟩ := pass_q (m := m5) (pass2 h)
  refine ⟨?_, ?_, ?_, ?_⟩
  · simp [passS, heldS, leftS, goneS, h.c3, x3, updM]
  · simp [passS, heldS, leftS, goneS, h.c3, x3, updH, updM]
  · intro k hk
    simp [passS, heldS, leftS, goneS, h.c3, x3, updH, updM, hk, clrH, h.h3]
  · rw [e0]; simp
end Go.Proofs.Ytjojempjmpaaaaa

namespace Go.Proofs.Ytjojempjmpaaaaa
open Go.RowKit
theorem kA_ne {w w2 : Nat} {s : Lk} (h : w ∈ s.q 0 kA) (hf : ∀ i k', i < 3 → w2 ∉ s.q i k') : w2 ≠ w := fun e => hf 0 kA (by decide) (e ▸ h)
set_option maxRecDepth 100000 in
set_option maxHeartbeats 4000000 in
theorem awake14_any (W : World) : Calls Try.prog 8 #[] W fun e W' => e = .returned (.bool true) ∧ Below W.heap.size W W' := by
  have KN := Lib.hid (new_table W)
  go_enter Try.func8, Try.ntmps8
  go_wp2_with fail
  refine KN.out.mono ?_
  rintro e w1 ⟨T, ml, mh, mw, rfl, h1, b1⟩
  have B1 := Lib.hid b1
  have K1 := Lib.hid (ask_hold (k := kA) (b := false) (o := 1) h1 (by decide) wf1 (by decide) rfl rfl (by decide) rfl rfl)
  clear h1 b1 KN
  unfold kA at K1
  go_wp2_with fail
  refine K1.out.mono ?_
  rintro e w2 ⟨rfl, K, m, w, h2, _, b2⟩
  have h2 : LkAt W.heap.size w2 T ml mh mw 3 (stA K m w) := h2
  have B2 := Lib.hid (B1.out.trans b2)
  obtain ⟨qa0, qa1, qa2, qac⟩ := stA_q K m w
  have hfA : freeB (stA K m w).con ⟨kA, true, 2⟩ ((stA K m w).q 0 kA) = false := by
    rw [qa0]
    simp [freeB, endsL, qac, clash, x1]
  have K2 := Lib.hid (ask_busy (k := kA) (b := true) (o := 2) h2 (by decide) wf2 (by decide) (by simp [stA, heldS, lockS, Lk.none]) (by simp [stA, heldS, lockS, Lk.none, updH, x1]) (by decide) (by rw [qa1, qa2]; rfl) hfA)
  have Wq := Lib.hid (show w ∈ (stA K m w).q 0 kA by rw [qa0]; simp)
  clear h2 b2 K1 B1 qa0 qa1 qa2 qac hfA
  unfold kA at K2
  go_wp2_with fail
  refine K2.out.mono ?_
  rintro e w3 ⟨rfl, K2', v2, h3, nf2, b3⟩
  have n12 := Lib.hid (kA_ne Wq.out nf2)
  have h3 : LkAt W.heap.size w3 T ml mh mw 6 (stB K m w K2' v2) := h3
  have B3 := Lib.hid (B2.out.trans b3)
  obtain ⟨qb0, qb1, qb2⟩ := stB_q K m w K2' v2
  have K3 := Lib.hid (ask_wait (k := kA) (b := false) (o := 3) h3 (by decide) wf3 (by decide) (by simp [stB, waitS, stA, heldS, lockS, Lk.none, updM, x2]) (by simp [stB, waitS, stA, heldS, lockS, Lk.none, updH, x1]) (by decide) (by rw [qb1, qb2]; simp))
  have Wq3 := Lib.hid (show w ∈ (stB K m w K2' v2).q 0 kA by rw [qb0]; simp)
  have Wq4 := Lib.hid (show v2 ∈ (stB K m w K2' v2).q 2 kA by rw [qb2]; simp)
  clear h3 b3 K2 B2 qb0 qb1 qb2 nf2
  unfold kA at K3
  go_wp2_with fail
  refine K3.out.mono ?_
  rintro e w4 ⟨rfl, K3', v3, h4, nf3, b4⟩
  have n13 := kA_ne Wq3.out nf3
  have n23 : v3 ≠ v2 := fun e => nf3 2 kA (by decide) (e ▸ Wq4.out)
  have F3 := Lib.hid (stC_ok K m w K2' v2 K3' v3 n12.out n13 n23)
  have h4 : LkAt W.heap.size w4 T ml mh mw 9 (stC K m w K2' v2 K3' v3) := h4
  generalize stC K m w K2' v2 K3' v3 = s3 at *
  have B4 := Lib.hid (B3.out.trans b4)
  have ha5 : Below w4.heap.size w4 (w4.alloc (.cells #[.int .i64 1] 3)) := (Below.refl _ _).alloc (Nat.le_refl _) _
  have H5 := Lib.hid (h4.below ha5)
  have B5 := Lib.hid (B4.out.trans (ha5.mono h4.lts))
  have K5 := Lib.hid (free_one (q1 := []) (q2 := []) (r := [v3]) (c := 1) H5.out wf1 F3.out.hm F3.out.h1 F3.out.ho F3.out.t1 F3.out.lk (by rw [F3.out.q0]; rfl) (by decide) (pass1 F3.out) (by decide) (new_cell rfl rfl))
  clear h4 b4 K3 B3 B4 n13 n23 nf3 ha5 H5 Wq Wq3 Wq4 n12
  go_wp2_with fail
  refine K5.out.mono ?_
  rintro e w6 ⟨g6, c6, m6, rfl, hc6, h6, b6⟩
  have F4 := Lib.hid (pass1_s (m4 := m6) F3.out)
  rw [show ((goneS s3 kA ([] ++ []) 1).con v2).ow = 2 by show (s3.con v2).ow = 2; rw [F3.out.c2]; rfl] at hc6
  generalize passS (goneS s3 kA ([] ++ []) 1) kA v2 [v3] m6 = s4 at *
  have ha7 : Below w6.heap.size w6 (w6.alloc (.cells #[.int .i64 2] 3)) := (Below.refl _ _).alloc (Nat.le_refl _) _
  have KS := Lib.hid (same_one g6 w6.heap.size c6 1 2 _ (keep_cell ha7 hc6) (new_cell rfl rfl))
  have H7 := Lib.hid (h6.below ha7)
  have B7 := Lib.hid ((B5.out.trans b6).trans (ha7.mono h6.lts))
  clear hc6 h6 b6 K5 B5 ha7 F3
  go_wp2_with fail
  refine KS.out.mono ?_
  rintro e w8 ⟨rfl, b8⟩
  have h8 := H7.out.below b8
  have ha9 : Below w8.heap.size w8 (w8.alloc (.cells #[.int .i64 2] 3)) := (Below.refl _ _).alloc (Nat.le_refl _) _
  have H9 := Lib.hid (h8.below ha9)
  have B9 := Lib.hid ((B7.out.trans (b8.mono H7.out.lts)).trans (ha9.mono h8.lts))
  have K9 := Lib.hid (free_one (q1 := []) (q2 := []) (r := []) (c := 1) H9.out wf2 F4.out.hm F4.out.h1 F4.out.ho F4.out.t2 F4.out.lk (by rw [F4.out.q0]; rfl) (by decide) (pass2 F4.out) (by decide) (new_cell rfl rfl))
  clear h8 b8 ha9 KS H7 B7 H9
  go_wp2_with fail
  refine K9.out.mono ?_
  rintro e w10 ⟨g10, c10, m10, rfl, hc10, h10, b10⟩
  obtain ⟨f1, f2, f3, f4⟩ := pass2_s (m5 := m10) F4.out
  rw [show ((goneS s4 kA ([] ++ []) 2).con v3).ow = 3 by show (s4.con v3).ow = 3; rw [F4.out.c3]; rfl] at hc10
  generalize passS (goneS s4 kA ([] ++ []) 2) kA v3 [] m10 = s5 at *
  have ha11 : Below w10.heap.size w10 (w10.alloc (.cells #[.int .i64 3] 3)) := (Below.refl _ _).alloc (Nat.le_refl _) _
  have KS := Lib.hid (same_one g10 w10.heap.size c10 1 3 _ (keep_cell ha11 hc10) (new_cell rfl rfl))
  have H11 := Lib.hid (h10.below ha11)
  have B11 := Lib.hid ((B9.out.trans b10).trans (ha11.mono h10.lts))
  have G1 := Lib.hid f1
  have G2 := Lib.hid f2
  have G3 := Lib.hid f3
  have G4 := Lib.hid f4
  clear hc10 h10 b10 K9 B9 ha11 F4 f1 f2 f3 f4
  go_wp2_with fail
  refine KS.out.mono ?_
  rintro e w12 ⟨rfl, b12⟩
  have h12 := H11.out.below b12
  have KH := Lib.hid (holds_one h12 wf3 G1.out G2.out G3.out G4.out)
  have B12 := Lib.hid (B11.out.trans (b12.mono H11.out.lts))
  clear h12 b12 KS H11 B11
  go_wp2_with fail
  refine KH.out.mono ?_
  rintro e w13 ⟨⟨g13, c13, rfl⟩, b13⟩
  have B13 := Lib.hid (B12.out.trans b13)
  clear b13 KH B12
  go_wp2
  go_ret
  exact ⟨rfl, B13.out⟩
set_option maxRecDepth 100000 in
set_option maxHeartbeats 4000000 in
theorem lockNone_walk (o : Int) (key : ByteArray) (W : World) : Calls Try.prog 5 #[.int .i64 o, .string key] W fun e W' => e = .returned (.bool true) ∧ Below W.heap.size W W' := by
  have KA := Lib.hid (fun W => awake14_any W)
  by_cases h100 : 100 < key.size
  · have h1 : (100 : Int) < (key.size : Int) := by omega
    go_enter Try.func5, Try.ntmps5
    go_wp2_with fail
    refine (KA.out _).mono ?_
    rintro e w1 ⟨rfl, hb⟩
    go_wp2
    go_ret
    exact ⟨rfl, hb⟩
  · have h1 : (key.size : Int) ≤ 100 := by omega
    have KW := Lib.hid (nWaits o W)
    go_enter Try.func5, Try.ntmps5
    go_wp2_with fail
    refine KW.out.mono ?_
    rintro e w1 ⟨rfl, hb1⟩
    have ha : Below w1.heap.size w1 (w1.alloc (.cells #[.string ⟨#[]⟩, .bool false] 40)) := (Below.refl _ _).alloc (Nat.le_refl _) _
    have z0 : (w1.alloc (.cells #[.string ⟨#[]⟩, .bool false] 40)).cell? ⟨w1.heap.size, 0, none⟩ = some (.string ⟨#[]⟩) := new_cell rfl rfl
    have z1 : (w1.alloc (.cells #[.string ⟨#[]⟩, .bool false] 40)).cell? ⟨w1.heap.size, 1, none⟩ = some (.bool false) := new_cell rfl rfl
    have HB2 := Lib.hid (hb1.trans (ha.mono hb1.size))
    have KA0 := Lib.hid (fun X => nAsk o key false X)
    have KQ := Lib.hid (fun X => nQuit o X)
    have KF := Lib.hid (fun v X => nFree v X)
    have KH := Lib.hid (fun X => nHolds o X)
    have KL := Lib.hid (fun X => nLine key X)
    have KE := Lib.hid (fun X => nEdges X)
    clear KW hb1 ha
    go_upto_region 5 with fail
    generalize w1.alloc (.cells #[.string ⟨#[]⟩, .bool false] 40) = Z at *
    generalize w1.heap.size = C at *
    go_wp2_with fail
    refine (KA0.out _).mono ?_
    rintro e w3 ⟨rfl, hb3⟩
    have x0 := keep_cell hb3 z0
    have x1 := keep_cell hb3 z1
    have HB3 := Lib.hid (HB2.out.trans (hb3.mono HB2.out.size))
    clear hb3 HB2 KA0 z0 z1
    go_wp2_with fail
    refine (KQ.out _).mono ?_
    rintro e w4 ⟨rfl, rfl⟩
    have ha4 : Below w3.heap.size w3 (w3.alloc (.cells #[.int .i64 o] 3)) := (Below.refl _ _).alloc (Nat.le_refl _) _
    have y0 := keep_cell ha4 x0
    have y1 := keep_cell ha4 x1
    have HB4 := Lib.hid (HB3.out.trans (ha4.mono HB3.out.size))
    clear ha4 HB3
    go_wp2_with fail
    refine (KF.out _ _).mono ?_
    rintro e w5 ⟨rfl, rfl⟩
    clear x0 x1
    generalize w3.alloc (.cells #[.int .i64 o] 3) = w5 at *
    go_wp2_with fail
    refine (KH.out _).mono ?_
    rintro e w6 ⟨rfl, rfl⟩
    go_wp2_with fail
    refine (KL.out _).mono ?_
    rintro e w6 ⟨rfl, rfl⟩
    go_wp2_with fail
    refine (KE.out _).mono ?_
    rintro e w6 ⟨rfl, rfl⟩
    go_wp2_with fail
    refine (KA.out _).mono ?_
    rintro e w7 ⟨rfl, hb7⟩
    have HB7 := Lib.hid (HB4.out.trans (hb7.mono HB4.out.size))
    clear hb7
    go_wp2
    go_ret
    exact ⟨rfl, HB7.out⟩
end Go.Proofs.Ytjojempjmpaaaaa
