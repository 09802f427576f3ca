/-
  CHAINS: what they are; the contracts of Rule.Fits and quadrigaref03.Fits.
-/
import Derived.Test.YtpfgdmjgeelobaaDoorFrLong
import Derived.Test.YtpfgdmjgeelobaaDoorFrVars
import Derived.Lib.SmallJoins
namespace Go.Proofs.YtpfgdmjgeelobaaDoor
open Go.RowKit Crc

structure Fr where
  e : Int
  a : Int
  g : Int
  d : ByteArray
def Fr.vals (f : Fr) : List Value := [.int .i64 f.e, .int .i64 f.a, .int .i64 f.g, .string f.d]
def flat (l : List Fr) : List Value := l.flatMap Fr.vals
def frFits (ep cut e a g at_ ab : Int) : Bool := (a == at_) && (decide (ab < g) && (if at_ < cut then decide (e ≤ ep) else e == ep))
/-- The frames of a chain, and the place behind it. -/
def chain (ep cut : Int) : Nat → ByteArray → Int → Int → List Fr × Int
  | 0, _, at_, _ => ([], at_)
  | n + 1, s, at_, ab =>
    if frOk s && frFits ep cut (frE s) (frA s) (frG s) at_ ab then
      (⟨frE s, frA s, frG s, frD s⟩ :: (chain ep cut n (s.extract (25 + frN s) s.size) (at_ + ((25 + frN s : Nat) : Int)) (frG s)).1, (chain ep cut n (s.extract (25 + frN s) s.size) (at_ + ((25 + frN s : Nat) : Int)) (frG s)).2)
    else ([], at_)
theorem chain_stop {ep cut at_ ab : Int} {n : Nat} {s : ByteArray} (h : (frOk s && frFits ep cut (frE s) (frA s) (frG s) at_ ab) = false) : chain ep cut (n + 1) s at_ ab = ([], at_) := by
  rw [chain, if_neg (by rw [h]; simp)]
theorem chain_go {ep cut at_ ab : Int} {n : Nat} {s : ByteArray} (h : (frOk s && frFits ep cut (frE s) (frA s) (frG s) at_ ab) = true) : chain ep cut (n + 1) s at_ ab =
    (⟨frE s, frA s, frG s, frD s⟩ :: (chain ep cut n (s.extract (25 + frN s) s.size) (at_ + ((25 + frN s : Nat) : Int)) (frG s)).1, (chain ep cut n (s.extract (25 + frN s) s.size) (at_ + ((25 + frN s : Nat) : Int)) (frG s)).2) := by
  rw [chain, if_pos h]

theorem right_all (e a g : Int) (d : ByteArray) (w : World) :
    Calls Tryd.prog 25 #[.agg #[.int .i64 e, .int .i64 a, .int .i64 g, .string d]] w fun x w' => x = .returned (.bool (frRight e a g d.size)) ∧ Below w.heap.size w w' := by
  by_cases h : 200 < d.size
  · rw [frRight_long h]; exact right_long e a g d w h
  · exact right_any e a g d w (by omega)
theorem two_new (w : World) (o1 o2 : Obj) : ((w.alloc o1).alloc o2).heap[w.heap.size + 1]? = some o2 ∧ ((w.alloc o1).alloc o2).heap[w.heap.size]? = some o1 := by
  have h1 := heap_alloc_new (w.alloc o1) o2
  rw [World.size_alloc] at h1
  exact ⟨h1, (Below.heap_alloc (w.alloc o1) o2 w.heap.size (by rw [World.size_alloc]; omega)).trans (heap_alloc_new w o1)⟩
theorem two_kept {w w' : World} {c1 c2 : Array Value} {T1 T2 : TypeId} (h : Below ((w.alloc (.cells c1 T1)).alloc (.cells c2 T2)).heap.size ((w.alloc (.cells c1 T1)).alloc (.cells c2 T2)) w') :
    (∀ i, w'.cell? ⟨w.heap.size + 1, i, none⟩ = c2[i]?) ∧ (∀ i, w'.cell? ⟨w.heap.size, i, none⟩ = c1[i]?) := by
  have hs : ((w.alloc (.cells c1 T1)).alloc (.cells c2 T2)).heap.size = w.heap.size + 2 := by rw [World.size_alloc, World.size_alloc]
  have h1 := (h.block (w.heap.size + 1) (by omega)).trans (two_new w _ _).1
  have h0 := (h.block w.heap.size (by omega)).trans (two_new w _ _).2
  exact ⟨Go.Joins.cell_of_block h1, Go.Joins.cell_of_block h0⟩

set_option maxHeartbeats 1000000 in
theorem ruleFits_any (ep cut e a g at_ ab : Int) (d : ByteArray) (w : World) :
    Calls Tryd.prog 19 #[.agg #[.int .i64 ep, .int .i64 cut], .agg #[.int .i64 e, .int .i64 a, .int .i64 g, .string d], .int .i64 at_, .int .i64 ab] w
      fun x w' => x = .returned (.bool (frRight e a g d.size && frFits ep cut e a g at_ ab)) ∧ Below w.heap.size w w' := by
  have HR := Lib.hid (fun W => right_all e a g d W)
  cases hr : frRight e a g d.size
  · rw [hr] at HR
    clear hr
    go_enter Tryd.func19, Tryd.ntmps19
    go_wp2_with fail
    refine (HR.out _).mono ?_
    rintro x w1 ⟨rfl, hb1⟩
    have hbw := bw_call hb1 (bw_alloc (bw_alloc (Below.refl w.heap.size w)))
    go_wp2
    go_ret
    exact ⟨rfl, hbw⟩
  · rw [hr] at HR
    clear hr
    have HF : Hid (frFits ep cut e a g at_ ab = ((a == at_) && (decide (ab < g) && (if at_ < cut then decide (e ≤ ep) else e == ep)))) := rfl
    have H0 : Hid (∀ x, (true && frFits ep cut e a g at_ ab) = x ↔ frFits ep cut e a g at_ ab = x) := fun x => by rw [Bool.true_and]
    by_cases ha : a = at_
    · subst ha
      by_cases hg : ab < g
      · have hg' : ¬ g ≤ ab := by omega
        by_cases hc : a < cut
        · have hv : Hid ((true && frFits ep cut e a g a ab) = decide (e ≤ ep)) := by rw [Hid, HF.out]; simp [hg, hc]
          go_enter Tryd.func19, Tryd.ntmps19
          go_wp2_with fail
          refine (HR.out _).mono ?_
          rintro x w1 ⟨rfl, hb1⟩
          have hbw := bw_call hb1 (bw_alloc (bw_alloc (Below.refl w.heap.size w)))
          obtain ⟨hf, hq⟩ := two_kept hb1
          have f0 := hf 0
          have f1 := hf 1
          have f2 := hf 2
          have q0 := hq 0
          have q1 := hq 1
          simp only [List.getElem?_toArray, List.getElem?_cons_zero, List.getElem?_cons_succ] at f0 f1 f2 q0 q1
          go_wp2
          go_ret
          exact ⟨ret_bool hv.out.symm, hbw⟩
        · have hv : Hid ((true && frFits ep cut e a g a ab) = (e == ep)) := by rw [Hid, HF.out]; simp [hg, hc]
          go_enter Tryd.func19, Tryd.ntmps19
          go_wp2_with fail
          refine (HR.out _).mono ?_
          rintro x w1 ⟨rfl, hb1⟩
          have hbw := bw_call hb1 (bw_alloc (bw_alloc (Below.refl w.heap.size w)))
          obtain ⟨hf, hq⟩ := two_kept hb1
          have f0 := hf 0
          have f1 := hf 1
          have f2 := hf 2
          have q0 := hq 0
          have q1 := hq 1
          simp only [List.getElem?_toArray, List.getElem?_cons_zero, List.getElem?_cons_succ] at f0 f1 f2 q0 q1
          go_wp2
          go_ret
          exact ⟨ret_bool hv.out.symm, hbw⟩
      · have hg' : g ≤ ab := by omega
        have hv : Hid ((true && frFits ep cut e a g a ab) = false) := by rw [Hid, HF.out]; simp [hg]
        go_enter Tryd.func19, Tryd.ntmps19
        go_wp2_with fail
        refine (HR.out _).mono ?_
        rintro x w1 ⟨rfl, hb1⟩
        have hbw := bw_call hb1 (bw_alloc (bw_alloc (Below.refl w.heap.size w)))
        obtain ⟨hf, hq⟩ := two_kept hb1
        have f0 := hf 0
        have f1 := hf 1
        have f2 := hf 2
        simp only [List.getElem?_toArray, List.getElem?_cons_zero, List.getElem?_cons_succ] at f0 f1 f2
        go_wp2
        go_ret
        exact ⟨ret_bool hv.out.symm, hbw⟩
    · have hv : Hid ((true && frFits ep cut e a g at_ ab) = false) := by rw [Hid, HF.out]; simp [ha]
      have ha' : (a != at_) = true := by simp [ha]
      have ha2 : (a == at_) = false := by simp [ha]
      go_enter Tryd.func19, Tryd.ntmps19
      go_wp2_with fail
      refine (HR.out _).mono ?_
      rintro x w1 ⟨rfl, hb1⟩
      have hbw := bw_call hb1 (bw_alloc (bw_alloc (Below.refl w.heap.size w)))
      obtain ⟨hf, hq⟩ := two_kept hb1
      have f0 := hf 0
      have f1 := hf 1
      have f2 := hf 2
      simp only [List.getElem?_toArray, List.getElem?_cons_zero, List.getElem?_cons_succ] at f0 f1 f2
      go_wp2
      go_ret
      exact ⟨ret_bool hv.out.symm, hbw⟩

set_option maxHeartbeats 1000000 in
theorem refFits_any (ep cut e a g at_ ab : Int) (d : ByteArray) (w : World) :
    Calls Tryd.prog 20 #[.int .i64 ep, .int .i64 cut, .agg #[.int .i64 e, .int .i64 a, .int .i64 g, .string d], .int .i64 at_, .int .i64 ab] w
      fun x w' => x = .returned (.bool (frRight e a g d.size && frFits ep cut e a g at_ ab)) ∧ Below w.heap.size w w' := by
  have HR := Lib.hid (fun W => refRight_all e a g d W)
  cases hr : frRight e a g d.size
  · rw [hr] at HR
    clear hr
    go_enter Tryd.func20, Tryd.ntmps20
    go_wp2_with fail
    refine (HR.out _).mono ?_
    rintro x w1 ⟨rfl, hb1⟩
    have hbw := bw_call hb1 (bw_alloc (Below.refl w.heap.size w))
    go_wp2
    go_ret
    exact ⟨rfl, hbw⟩
  · rw [hr] at HR
    clear hr
    have HF : Hid (frFits ep cut e a g at_ ab = ((a == at_) && (decide (ab < g) && (if at_ < cut then decide (e ≤ ep) else e == ep)))) := rfl
    go_enter Tryd.func20, Tryd.ntmps20
    go_wp2_with fail
    refine (HR.out _).mono ?_
    rintro x w1 ⟨rfl, hb1⟩
    have hbw := bw_call hb1 (bw_alloc (Below.refl w.heap.size w))
    have hf := var_cells hb1
    have f0 := hf 0
    have f1 := hf 1
    have f2 := hf 2
    simp only [List.getElem?_toArray, List.getElem?_cons_zero, List.getElem?_cons_succ] at f0 f1 f2
    by_cases ha : a = at_
    · subst ha
      by_cases hg : ab < g
      · have hg' : ¬ g ≤ ab := by omega
        by_cases he : e ≤ ep
        · have he' : ¬ ep < e := by omega
          by_cases heq : e = ep
          · subst heq
            have hv : Hid ((true && frFits e cut e a g a ab) = true) := by rw [Hid, HF.out]; simp [hg]
            go_wp2
            go_ret
            exact ⟨ret_bool hv.out.symm, hbw⟩
          · have hv : Hid ((true && frFits ep cut e a g a ab) = decide (a < cut)) := by
              rw [Hid, HF.out]
              by_cases hc : a < cut
              · simp [hg, hc, he]
              · simp [hg, hc, heq]
            have heq' : (e == ep) = false := by simp [heq]
            go_wp2
            go_ret
            exact ⟨ret_bool hv.out.symm, hbw⟩
        · have he' : ep < e := by omega
          have hv : Hid ((true && frFits ep cut e a g a ab) = false) := by
            rw [Hid, HF.out]
            by_cases hc : a < cut
            · simp [hg, hc]; omega
            · simp [hg, hc]; omega
          go_wp2
          go_ret
          exact ⟨ret_bool hv.out.symm, hbw⟩
      · have hg' : g ≤ ab := by omega
        have hv : Hid ((true && frFits ep cut e a g a ab) = false) := by rw [Hid, HF.out]; simp [hg]
        go_wp2
        go_ret
        exact ⟨ret_bool hv.out.symm, hbw⟩
    · have hv : Hid ((true && frFits ep cut e a g at_ ab) = false) := by rw [Hid, HF.out]; simp [ha]
      have ha' : (a != at_) = true := by simp [ha]
      have ha2 : (a == at_) = false := by simp [ha]
      go_wp2
      go_ret
      exact ⟨ret_bool hv.out.symm, hbw⟩
end Go.Proofs.YtpfgdmjgeelobaaDoor
