/-
  THE CONTRACT OF head.Load, of a device that is on.
-/
import Derived.Test.YtpoagfldekppkaaDoorHdKept
namespace Go.Proofs.YtpoagfldekppkaaDoor
open Go.RowKit
/-- Nothing but 00. -/
def allZ (s : ByteArray) : Bool := (Lib.trimB s.data.toList 0).isEmpty
/-- A turn of Load. -/
def ldStep (t : Nat) (q : Hd5 × Bool × Bool) (s : ByteArray) : Hd5 × Bool × Bool :=
  match readHd s with
  | some h => if h.1 % 2 = (t : Int) ∧ (q.2.1 = false ∨ q.1.1 < h.1) then (h, true, q.2.2 && allZ s) else (q.1, q.2.1, q.2.2 && allZ s)
  | none => (q.1, q.2.1, q.2.2 && allZ s)
def z5 : Hd5 := (0, 0, 0, 0, 0)
def ldEnd (q : Hd5 × Bool × Bool) : Hd5 × Int := if q.2.1 = true then (q.1, 0) else if q.2.2 = true then (z5, 7) else (z5, 9)
def ldFrom (sec : Nat → ByteArray) : Nat → Hd5 × Bool × Bool → Hd5 × Int
  | 0, q => ldEnd (ldStep 1 (ldStep 0 q (sec 0)) (sec 1))
  | 1, q => ldEnd (ldStep 1 q (sec 1))
  | _ + 2, q => ldEnd q
theorem ldFrom_step (sec : Nat → ByteArray) {t : Nat} (q : Hd5 × Bool × Bool) (ht : t < 2) : ldFrom sec t q = ldFrom sec (t + 1) (ldStep t q (sec t)) := by
  match t, ht with
  | 0, _ => rfl
  | 1, _ => rfl
/-- Load's walk: the result's cells, the best head's. -/
structure LdW (w W : World) (B : Nat) (q : Hd5) : Prop where
  z : Z5 w W w.heap.size
  b : H5 W B q.1 q.2.1 q.2.2.1 q.2.2.2.1 q.2.2.2.2
  hB : w.heap.size < B
theorem LdW.below {w W X : World} {B : Nat} {q : Hd5} (h : LdW w W B q) (hb : Below W.heap.size W X) : LdW w X B q := ⟨h.z.below hb, h.b.below hb, h.hB⟩
theorem ldW_new (w : World) (T : TypeId) : LdW w ((w.alloc (.cells #[z64, z64, z64, z64, z64] T)).alloc (.cells #[z64, z64, z64, z64, z64] T)) (w.heap.size + 1) z5 := by
  have hs : (w.alloc (.cells #[z64, z64, z64, z64, z64] T)).heap.size = w.heap.size + 1 := World.size_alloc _ _
  have h1 : H5 ((w.alloc (.cells #[z64, z64, z64, z64, z64] T)).alloc (.cells #[z64, z64, z64, z64, z64] T)) (w.alloc (.cells #[z64, z64, z64, z64, z64] T)).heap.size 0 0 0 0 0 := ⟨C5.new _ _ _ _ _ _ T, fun _ => World.frozen?_alloc_at _ _ _ _ rfl⟩
  rw [hs] at h1
  exact ⟨(z5_new w T).below ((Below.refl _ _).alloc (Nat.le_refl _) _), h1, Nat.lt_succ_self _⟩
theorem LdW.put {w W : World} {B : Nat} {q : Hd5} (h : LdW w W B q) (s e c st m : Int) :
    LdW w (((((W.setCell ⟨B, 0, none⟩ (.int .i64 s)).setCell ⟨B, 1, none⟩ (.int .i64 e)).setCell ⟨B, 2, none⟩ (.int .i64 c)).setCell ⟨B, 3, none⟩ (.int .i64 st)).setCell ⟨B, 4, none⟩ (.int .i64 m)) B (s, e, c, st, m) := by
  have hne : w.heap.size ≠ B := by have := h.hB; omega
  refine ⟨⟨((((h.z.r.other hne).other hne).other hne).other hne).other hne, fun i => ?_, ?_, Nat.le_refl _⟩, ⟨set5_cells h.b.h, fun i => ?_⟩, h.hB⟩
  · simp only [World.frozen?_setCell]; exact h.z.rf i
  · have hR : w.heap.size ≤ B := Nat.le_of_lt h.hB
    exact ((((h.z.bw.setCell hR _).setCell hR _).setCell hR _).setCell hR _).setCell hR _
  · simp only [World.frozen?_setCell]; exact h.b.hf i
section
variable {W : World} {D P L M n k : Nat} {uses left : Int} {las : List (List UInt8)} {f : Int → Option (List UInt8)}
/-- What Load answers. -/
def LdAns (w : World) (o : Hd5 × Int) (x : Ending) (w' : World) : Prop :=
  x = .returned (.tuple #[.agg #[.int .i64 o.1.1, .int .i64 o.1.2.1, .int .i64 o.1.2.2.1, .int .i64 o.1.2.2.2.1, .int .i64 o.1.2.2.2.2], .int .i64 o.2]) ∧ Below w.heap.size w w'
end
end Go.Proofs.YtpoagfldekppkaaDoor
