/-
  SpaceBack: the states of its two loops.
-/
import Derived.Test.YtjjbdkgnkieliaaSpBackRow
namespace Go.Proofs.Ytjjbdkgnkieliaa
open Go.RowKit
/-- While moves are done. -/
structure BackS (W w : World) (B S T A : Nat) (n0 : Int) (i : Nat) (nn dd : Value) (done : List Mv) (o : Int → Option Nat) (b : Book) : Prop where
  nv : nn = .int .i64 (cellsN n0 done)
  sp : SpIn w S T A (3 * i) o b.1 b.2
  bk : BkOk b done
  l4 : ∀ m ∈ done, m.1 < 4
  s8 : cellsN n0 done + sum4 done ≤ 8
  c0 : 0 ≤ cellsN n0 done
  len : done.length ≤ i
  row : w.ownsRow B 48 2 dd done.length (flat done)
  bel : Below W.heap.size W w
  size : B ≤ w.heap.size
  sB : S < B
  wB : W.heap.size ≤ B
  bT : W.heap.size ≤ T
  bA : W.heap.size ≤ A
  bo : ∀ t x, o t = some x → W.heap.size ≤ x
def BackE (W w : World) (B S T A : Nat) (n0 : Int) (i : Nat) (nn dd : Value) : Prop := ∃ done o b, BackS W w B S T A n0 i nn dd done o b
/-- While they are taken back. -/
structure BackT (W w : World) (B : Nat) (n0 : Int) (nn dd : Value) (done : List Mv) : Prop where
  nv : nn = .int .i64 (cellsN n0 done)
  l4 : ∀ m ∈ done, m.1 < 4
  s8 : cellsN n0 done + sum4 done ≤ 8
  len : done.length ≤ 80
  row : w.ownsRow B 48 2 dd done.length (flat done)
  bel : Below W.heap.size W w
  size : B ≤ w.heap.size
  wB : W.heap.size ≤ B
def BackU (W w : World) (B : Nat) (n0 : Int) (nn dd : Value) (i q : Nat) : Prop := ∃ done, BackT W w B n0 nn dd done ∧ i + done.length ≤ q + 80
theorem snoc_l4 {l : List Mv} {m : Mv} (h : ∀ x ∈ l, x.1 < 4) (hm : m.1 < 4) : ∀ x ∈ l ++ [m], x.1 < 4 := fun x hx => by
  rcases List.mem_append.1 hx with hx | hx
  · exact h x hx
  · simp at hx; subst hx; exact hm
def lenOf : Value → Nat
  | .slice _ n _ => n
  | _ => 0
end Go.Proofs.Ytjjbdkgnkieliaa
