/-
  THE CONTRACT OF slices.Backward of places, as an iterator.
-/
import Derived.Test.YtophbefmlfieeaaTxBehind
import Derived.RangeFuncNested
import Derived.RangeFuncBound
import Derived.RangeFuncCalls
import Derived.RangeFuncLeaves
import Derived.Shelf.Abstract
import Derived.Shelf.RegionOpen
import Derived.WalkKit
import Derived.OwnWalkIn
import Derived.TacticsInMore
import Derived.LoopNIn
import Derived.LoopIn
namespace Go.Proofs.Ytophbefmlfieeaa
open Go.RowKit Go.Shelf
attribute [local go_sem] Oper.semAt_some
def upto {α : Type} (f : Nat → α) (k : Nat) : List α := (List.range k).map f
theorem upto_succ {α : Type} (f : Nat → α) (k : Nat) : upto f (k + 1) = upto f k ++ [f k] := by simp [upto, List.range_succ]
theorem upto_length {α : Type} (f : Nat → α) (k : Nat) : (upto f k).length = k := by simp [upto]
/-- The j-th from behind. -/
def bk (l : List Plc) (j : Nat) : Nat × Plc := (l.length - 1 - j, l.getD (l.length - 1 - j) noPl)
set_option maxRecDepth 100000 in
set_option maxHeartbeats 2000000 in
theorem back1_in (F : Fence) (n : Nat) (h8 : F.fn 68) (hro : F.round = none) (hn : 1 ≤ n) (yl Bs n₀ b cap : Nat) (l : List Plc) (hl : l.length ≤ 100000) (hb : b < n₀) (J Jx : List (Nat × Plc) → World → Prop)
    (hY : ∀ pre x W, J pre W → pre.length < l.length → YieldAt F (n - 1) Try.prog yl #[.int .i64 (x.1 : Int), .agg #[.int .i64 x.2.1, .int .i64 x.2.2]] W fun e W' =>
      (e = .returned (.bool true) ∧ J (pre ++ [x]) W' ∧ Below n₀ W W') ∨ (e = .returned (.bool false) ∧ Jx (pre ++ [x]) W'))
    (hBs' : Bs < n₀)
    (W : World) (hBs : W.cell? ⟨Bs, 0, none⟩ = some (.slice (some ⟨b, 0, none⟩) l.length cap)) (hc : ∀ j, j < l.length → W.cell? ⟨b, j * 2, none⟩ = some (.int .i64 (l.getD j noPl).1) ∧ W.cell? ⟨b, j * 2 + 1, none⟩ = some (.int .i64 (l.getD j noPl).2)) (h0 : J [] W) :
    CallsIn F n Try.prog 68 #[.func (.yield yl) #[] #[], .pointer (some ⟨Bs, 0, none⟩)] W fun e W' => (∃ v, e = .returned v) ∧
      ((∃ ys, ys = upto (bk l) l.length ∧ J ys W') ∨ (∃ pre, (∃ k, k ≤ l.length ∧ pre = upto (bk l) k) ∧ Jx pre W')) := by
  refine callsIn_of_wp Try.func68 rfl h8 ?_ hro
  simp only [Try.ntmps68, List.size_toArray, List.length_cons, List.length_nil, Nat.reduceAdd, Nat.reduceSub, Array.replicate_succ, Array.replicate_zero, List.push_toArray, List.append_toArray, List.nil_append, List.cons_append]
  gi_wp2
  gi_loopw [3] (fun i wr => ∃ k : Nat, k ≤ l.length ∧ i = .int .i64 ((l.length : Int) - 1 - k) ∧ J (upto (bk l) k) wr ∧ Below n₀ W wr)
    (fun i _ => (intOf i + 1).toNat)
  case atStart => exact ⟨0, Nat.zero_le _, by simp, h0, Below.refl _ _⟩
  case round =>
    obtain ⟨k, hk, rfl, hJs, hnx⟩ := hrel
    by_cases hlt : k < l.length
    · have hi : ((l.length : Int) - 1 - k) = ((l.length - 1 - k : Nat) : Int) := by omega
      rw [hi]
      obtain ⟨fn, tmps, assign, body, hy, hR⟩ := hY _ (bk l k) wr hJs (by rw [upto_length]; exact hlt)
      have hj : l.length - 1 - k < l.length := by omega
      obtain ⟨q0, q1⟩ := hc _ hj
      have c0 := (hnx.cell (p := ⟨b, (l.length - 1 - k) * 2, none⟩) hb).trans q0
      have c1 := (hnx.cell (p := ⟨b, (l.length - 1 - k) * 2 + 1, none⟩) hb).trans q1
      have cb := (hnx.cell (p := ⟨Bs, 0, none⟩) hBs').trans hBs
      have hb1 : (bk l k).1 = l.length - 1 - k := rfl
      have hb2 : (bk l k).2 = l.getD (l.length - 1 - k) noPl := rfl
      rw [hb1, hb2] at hy
      have hup := upto_succ (bk l) k
      have HJ := Lib.hid hR
      clear q0 q1 hc hR hb1 hb2
      generalize l.getD (l.length - 1 - k) noPl = y at *
      generalize hz : l.length - 1 - k = z at *
      gi_wp2
      refine HJ.out.mono ?_
      rintro e W3 (⟨rfl, hJ3, hk3⟩ | ⟨rfl, hJx3⟩)
      · gi_wp2
        go_roundw
        case rel => exact ⟨k + 1, by omega, by first | (congr 1; omega) | congr 1, by rw [hup]; exact hJ3, hnx.trans hk3⟩
        case measure => (simp [intOf]) <;> omega
      · gi_wp2
        refine bodyPost_ret (results_none rfl _ _ _) rfl ?_
        exact ⟨⟨_, rfl⟩, .inr ⟨_, ⟨k + 1, by omega, hup.symm⟩, hJx3⟩⟩
    · obtain rfl : k = l.length := by omega
      have hneg : ¬ (0 : Int) ≤ (l.length : Int) - 1 - l.length := by omega
      gi_wp2
      go_end0
      first | exact ⟨⟨_, rfl⟩, .inl ⟨_, rfl, hJs⟩⟩ | exact ⟨⟨_, rfl⟩, .inl hJs⟩ | exact hJs
set_option maxRecDepth 100000 in
set_option maxHeartbeats 1000000 in
theorem back1_nil_in (F : Fence) (n : Nat) (h8 : F.fn 68) (hro : F.round = none) (yl Bs : Nat) (J : List (Nat × Plc) → World → Prop) (W : World) (hBs : W.cell? ⟨Bs, 0, none⟩ = some (.slice none 0 0)) (h0 : J [] W) :
    CallsIn F n Try.prog 68 #[.func (.yield yl) #[] #[], .pointer (some ⟨Bs, 0, none⟩)] W fun e W' => (∃ v, e = .returned v) ∧ J [] W' := by
  refine callsIn_of_wp Try.func68 rfl h8 ?_ hro
  simp only [Try.ntmps68, List.size_toArray, List.length_cons, List.length_nil, Nat.reduceAdd, Nat.reduceSub, Array.replicate_succ, Array.replicate_zero, List.push_toArray, List.append_toArray, List.nil_append, List.cons_append]
  gi_wp2
  gi_loopw [3] (fun i wr => i = .int .i64 (-1) ∧ J [] wr) (fun _ _ => 0)
  case atStart => exact ⟨rfl, h0⟩
  case round =>
    obtain ⟨rfl, hJs⟩ := hrel
    gi_wp2
    go_end0
    first | exact ⟨⟨_, rfl⟩, hJs⟩ | exact hJs
set_option maxHeartbeats 1000000 in
/-- slices.Backward: the slice is boxed; the function value captures the box. -/
theorem back_in (F : Fence) (n : Nat) (h6 : F.fn 52) (hro : F.round = none) (a : Option Addr) (len cap : Nat) (w : World) :
    CallsIn F n Try.prog 52 #[.slice a len cap] w fun e w' => e = .returned (.func (.func 68) #[] #[.pointer (some ⟨w.heap.size, 0, none⟩)]) ∧ w' = w.alloc (.cells #[.slice a len cap] 54) := by
  refine callsIn_of_wp Try.func52 rfl h6 ?_ hro
  simp only [Try.ntmps52, List.size_toArray, List.length_cons, List.length_nil, Nat.reduceAdd, Nat.reduceSub, Array.replicate_succ, Array.replicate_zero, List.push_toArray, List.append_toArray, List.nil_append, List.cons_append]
  gi_wp2
  go_ret
  exact ⟨rfl, rfl⟩
/-- The slice value sv holds the places l, in a block below n₀; or it is nil and there are none. -/
def PlcsAt (n₀ : Nat) (W : World) (sv : Value) (l : List Plc) : Prop :=
  (sv = .slice none 0 0 ∧ l = []) ∨ ∃ b cap, sv = .slice (some ⟨b, 0, none⟩) l.length cap ∧ b < n₀ ∧ ∀ j, j < l.length → W.cell? ⟨b, j * 2, none⟩ = some (.int .i64 (l.getD j noPl).1) ∧ W.cell? ⟨b, j * 2 + 1, none⟩ = some (.int .i64 (l.getD j noPl).2)
theorem PlcsAt.below {n₀ : Nat} {X Y : World} (h : Below n₀ X Y) {sv : Value} {l : List Plc} : PlcsAt n₀ X sv l → PlcsAt n₀ Y sv l
  | .inl e => .inl e
  | .inr ⟨b, cap, e, hb, hc⟩ => .inr ⟨b, cap, e, hb, fun j hj => ⟨(h.cell (p := ⟨b, j * 2, none⟩) hb).trans (hc j hj).1, (h.cell (p := ⟨b, j * 2 + 1, none⟩) hb).trans (hc j hj).2⟩⟩
theorem PlcR.plcs {W : World} {B : Nat} {v : Value} {l : List Plc} (h : PlcR W B v l) : PlcsAt W.heap.size W v l := by
  rcases h.form with ⟨e, e2⟩ | ⟨g, c, e, _, _, hlt⟩
  · exact .inl ⟨e, e2⟩
  · subst e
    exact .inr ⟨g, c, rfl, hlt, fun j hj => h.cell j hj⟩
theorem back_stops (F : Fence) (n : Nat) (h8 : F.fn 68) (hro : F.round = none) (hn : 1 ≤ n) (Bs n₀ : Nat) (sv : Value) (l : List Plc) (hl : l.length ≤ 100000) (w : World) (hBs : Bs < n₀) (hn₀ : n₀ ≤ w.heap.size)
    (hc : w.cell? ⟨Bs, 0, none⟩ = some sv) (hI : PlcsAt n₀ w sv l) :
    SeqStopsK F n Try.prog 68 #[.pointer (some ⟨Bs, 0, none⟩)] (fun x : Nat × Plc => #[Value.int .i64 (x.1 : Int), .agg #[.int .i64 x.2.1, .int .i64 x.2.2]]) (Below n₀) (fun ys => ys = upto (bk l) l.length)
      (fun pre => ∃ k, k ≤ l.length ∧ pre = upto (bk l) k) l.length w := fun yl J Jx W hW _ _ hY h0 => by
  have hc' := (hW.cell (p := ⟨Bs, 0, none⟩) (Nat.lt_of_lt_of_le hBs hn₀)).trans hc
  rcases hI.below (hW.mono hn₀) with ⟨rfl, rfl⟩ | ⟨b, cap, rfl, hb, hcs⟩
  · exact (back1_nil_in F n h8 hro yl Bs J W hc' h0).mono fun e W' ⟨he, hj⟩ => ⟨he, .inl ⟨_, rfl, hj⟩⟩
  · exact back1_in F n h8 hro hn yl Bs n₀ b cap l hl hb J Jx hY hBs W hc' hcs h0
end Go.Proofs.Ytophbefmlfieeaa
