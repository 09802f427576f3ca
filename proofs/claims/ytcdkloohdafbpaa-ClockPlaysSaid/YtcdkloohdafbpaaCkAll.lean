/-
  A CLOCK's CALLS, WHATEVER IS ASKED: one contract each, over one pure state.
-/
import Derived.Test.YtcdkloohdafbpaaCkLaw
import Derived.Test.YtcdkloohdafbpaaCkActs
import Derived.Test.YtcdkloohdafbpaaCkRaiseL
namespace Go.Proofs.Ytcdkloohdafbpaa
open Go.RowKit
structure Clk where
  ss : List Int
  fp : Int → Int
  ft : Int → Int
  top : Int
def CAt (W : World) (C S P T n k : Nat) (c : Clk) : Prop := ClockAt W C S P T n k c.ss c.fp c.ft c.top
def Clk.new (n : Nat) : Clk := ⟨List.replicate n 0, fun _ => 0, fun _ => 0, 0⟩
def okT (n : Nat) (c : Clk) (s p t : Int) : Bool := hasB n s && decide (nextV n c.ss c.fp c.ft s p t ≤ 4611686018427387903)
def Clk.N (n : Nat) (c : Clk) (s p t : Int) : Int := if okT n c s p t then nextV n c.ss c.fp c.ft s p t else 0
def Clk.E (n : Nat) (c : Clk) (s p t : Int) : Int := if hasB n s then (if nextV n c.ss c.fp c.ft s p t ≤ 4611686018427387903 then 0 else 3) else 1
def Clk.tick (n : Nat) (c : Clk) (s p t : Int) : Clk :=
  if okT n c s p t then ⟨c.ss.set s.toNat (nextV n c.ss c.fp c.ft s p t), updP c.fp p (nextV n c.ss c.fp c.ft s p t), updP c.ft t (nextV n c.ss c.fp c.ft s p t), max c.top (nextV n c.ss c.fp c.ft s p t)⟩ else c
def Clk.sees (c : Clk) (t p : Int) : Clk := if 0 ≤ t ∧ 0 ≤ p then { c with ft := updI c.ft t (max (c.ft t) (c.fp p)) } else c
def okR (n : Nat) (z : Int) (l : List Int) : Bool := hasL n l && mayB z
def Clk.raise (n : Nat) (c : Clk) (z : Int) (l : List Int) : Clk := if okR n z l then { c with ss := raiseL z c.ss (if l = [] then nums0 n else l), top := max c.top z } else c
def Clk.turn (c : Clk) (p z : Int) : Clk := if 0 ≤ p ∧ mayB z = true then { c with fp := updI c.fp p z, top := max c.top z } else c
def Clk.drop (c : Clk) (l : List Int) : Clk := { c with ft := dropL c.ft l }
section
variable {W W' : World} {C S P T n k : Nat} {c : Clk}
theorem CAt.below (h : CAt W C S P T n k c) (hb : Below W.heap.size W W') : CAt W' C S P T n k c := ClockAt.below h hb
theorem new_all (n : Nat) (W : World) (n1 : 1 ≤ n) (n8 : n ≤ 8) : Calls Try.prog 9 #[.int .i64 n] W fun e w' => ∃ C S P T, e = .returned (.pointer (some ⟨C, 0, none⟩)) ∧ CAt w' C S P T n 0 (Clk.new n) ∧ Below W.heap.size W w' ∧ W.heap.size ≤ C ∧ W.heap.size ≤ S ∧ W.heap.size ≤ P ∧ W.heap.size ≤ T :=
  new_yes n W n1 n8
theorem nextV_pos (h : CAt W C S P T n k c) (s p t : Int) : 0 ≤ nextV n c.ss c.fp c.ft s p t := by
  obtain ⟨a, _⟩ := streamV_ok h s
  unfold nextV; omega
theorem peek_all (h : CAt W C S P T n k c) (s p t : Int) (hp : (Lit.int .i64 p).wf = true) (ht : (Lit.int .i64 t).wf = true) :
    Calls Try.prog 19 #[.pointer (some ⟨C, 0, none⟩), .int .i64 s, .int .i64 p, .int .i64 t] W fun e w' => e = .returned (.tuple #[.int .i64 (c.N n s p t), .int .i64 (c.E n s p t)]) ∧ Below W.heap.size W w' := by
  refine (peek_any h s p t hp ht).mono ?_
  rintro e w' ⟨rfl, hb⟩
  refine ⟨?_, hb⟩
  unfold peekN peekE Clk.N Clk.E okT
  by_cases h1 : hasB n s = true
  · by_cases h2 : nextV n c.ss c.fp c.ft s p t ≤ 4611686018427387903 <;> simp [h1, h2]
  · simp [h1]
theorem tick_all (h : CAt W C S P T n k c) (s p t : Int) (hp : (Lit.int .i64 p).wf = true) (ht : (Lit.int .i64 t).wf = true) (hk : k + 2 < maxLen) :
    Calls Try.prog 18 #[.pointer (some ⟨C, 0, none⟩), .int .i64 s, .int .i64 p, .int .i64 t] W fun e w' => e = .returned (.tuple #[.int .i64 (c.N n s p t), .int .i64 (c.E n s p t)]) ∧ CAt w' C S P T n (k + 2) (c.tick n s p t) ∧ Fr C S P T W w' := by
  by_cases ho : okT n c s p t = true
  · have ho' := ho
    unfold okT at ho'
    rw [Bool.and_eq_true, decide_eq_true_iff] at ho'
    obtain ⟨h1, h2⟩ := ho'
    refine (tick_yes h s p t hp ht h1 _ rfl ⟨nextV_pos h s p t, h2⟩ hk).mono ?_
    rintro e w' ⟨rfl, hc, hf⟩
    refine ⟨?_, ?_, hf⟩
    · unfold Clk.N Clk.E; rw [if_pos ho, if_pos h1, if_pos h2]
    · unfold Clk.tick; rw [if_pos ho]; exact hc
  · have hE : peekE n c.ss c.fp c.ft s p t ≠ 0 ∧ c.E n s p t = peekE n c.ss c.fp c.ft s p t := by
      unfold peekE Clk.E
      refine ⟨?_, rfl⟩
      unfold okT at ho
      by_cases h1 : hasB n s = true
      · have h2 : ¬ nextV n c.ss c.fp c.ft s p t ≤ 4611686018427387903 := by simpa [h1] using ho
        rw [if_pos h1, if_neg h2]; omega
      · rw [if_neg h1]; omega
    refine (tick_no h s p t hp ht hE.1).mono ?_
    rintro e w' ⟨rfl, hb⟩
    refine ⟨?_, ?_, Fr.of_below hb⟩
    · rw [hE.2]; unfold Clk.N; rw [if_neg ho]
    · unfold Clk.tick; rw [if_neg ho]; exact ClockAt.mono (ClockAt.below h hb) (by omega)
theorem sees_all (h : CAt W C S P T n k c) (t p : Int) (ht : (Lit.int .i64 t).wf = true) (hp : (Lit.int .i64 p).wf = true) (hk : k < maxLen) :
    Calls Try.prog 16 #[.pointer (some ⟨C, 0, none⟩), .int .i64 t, .int .i64 p] W fun e w' => e = .returned (.tuple #[]) ∧ CAt w' C S P T n (k + 1) (c.sees t p) ∧ Fr C S P T W w' := by
  by_cases ho : 0 ≤ t ∧ 0 ≤ p
  · refine (sees_yes h t p ht hp ho.1 ho.2 hk).mono ?_
    rintro e w' ⟨rfl, hc, hf⟩
    refine ⟨rfl, ?_, hf⟩
    unfold Clk.sees; rw [if_pos ho]; exact hc
  · refine (sees_no h t p (by omega)).mono ?_
    rintro e w' ⟨rfl, rfl⟩
    refine ⟨rfl, ?_, Fr.refl _⟩
    unfold Clk.sees; rw [if_neg ho]; exact ClockAt.mono h (by omega)
theorem turn_all (h : CAt W C S P T n k c) (p z : Int) (hp : (Lit.int .i64 p).wf = true) (hk : k < maxLen) :
    Calls Try.prog 20 #[.pointer (some ⟨C, 0, none⟩), .int .i64 p, .int .i64 z] W fun e w' => e = .returned (.tuple #[]) ∧ CAt w' C S P T n (k + 1) (c.turn p z) ∧ Fr C S P T W w' := by
  by_cases ho : 0 ≤ p ∧ mayB z = true
  · refine (turn_yes h p z hp ho.1 (mayB_iff.1 ho.2) hk).mono ?_
    rintro e w' ⟨rfl, hc, hf⟩
    refine ⟨rfl, ?_, hf⟩
    unfold Clk.turn; rw [if_pos ho]; exact hc
  · refine (turn_no h p z (fun hh => ho ⟨hh.1, mayB_iff.2 hh.2⟩)).mono ?_
    rintro e w' ⟨rfl, rfl⟩
    refine ⟨rfl, ?_, Fr.refl _⟩
    unfold Clk.turn; rw [if_neg ho]; exact ClockAt.mono h (by omega)
theorem drop_all (h : CAt W C S P T n k c) (a : Option Addr) (l : List Int) (cap : Nat) (hl : l.length + k ≤ maxLen) (hw : Ints64 l) (ha : ∀ W', Fr C S P T W W' → IntsAt W' a l) :
    Calls Try.prog 21 #[.pointer (some ⟨C, 0, none⟩), .slice a l.length cap] W fun e w' => e = .returned (.tuple #[]) ∧ CAt w' C S P T n (k + l.length) (c.drop l) ∧ Fr C S P T W w' :=
  drop_any h a l cap hl hw ha
theorem raise_allL (h : CAt W C S P T n k c) (z : Int) (a : Option Addr) (l : List Int) (cap : Nat) (hl : l.length ≤ maxLen) (hw : Ints64 l) (ha : ∀ W', Fr C S P T W W' → IntsAt W' a l) :
    Calls Try.prog 22 #[.pointer (some ⟨C, 0, none⟩), .int .i64 z, .slice a l.length cap] W fun e w' => e = .returned (.int .i64 (if okR n z l then 0 else 1)) ∧ CAt w' C S P T n k (c.raise n z l) ∧ Fr C S P T W w' := by
  by_cases ho : okR n z l = true
  · have ho' := ho
    unfold okR at ho'
    rw [Bool.and_eq_true] at ho'
    obtain ⟨h1, h2⟩ := ho'
    have hz := mayB_iff.1 h2
    rw [if_pos ho]
    unfold Clk.raise
    rw [if_pos ho]
    by_cases hn : l = []
    · subst hn
      refine (raise_all h z hz a cap).mono ?_
      rintro e w' ⟨rfl, hc, hf⟩
      exact ⟨rfl, hc, hf⟩
    · rw [if_neg hn]
      exact raise_list h z hz a l cap hl hw ha h1 (List.length_pos_iff.2 hn)
  · rw [if_neg ho]
    refine (raise_no h z a l cap hl (ha W (Fr.refl W)) (by unfold okR at ho; simpa using ho)).mono ?_
    rintro e w' ⟨rfl, rfl⟩
    refine ⟨rfl, ?_, Fr.refl _⟩
    unfold Clk.raise; rw [if_neg ho]; exact h
theorem top_all (h : CAt W C S P T n k c) : Calls Try.prog 11 #[.pointer (some ⟨C, 0, none⟩)] W fun e w' => e = .returned (.int .i64 c.top) ∧ W = w' := top_any h
end
end Go.Proofs.Ytcdkloohdafbpaa
