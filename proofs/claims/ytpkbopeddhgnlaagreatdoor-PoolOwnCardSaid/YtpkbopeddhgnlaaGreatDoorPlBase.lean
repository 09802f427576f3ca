/-
  A POOL AS A STATE: its pages' device, its frames, each with a page of its own, what is dirty, what is pinned.
-/
import Derived.Test.YtpkbopeddhgnlaaGreatDoorPlOwn
namespace Go.Proofs.YtpkbopeddhgnlaaGreatDoor
open Go.RowKit
/-- A frame: its page, the value of its cells, the first record since, its pins. -/
structure FrD where
  g : Int
  v : Value
  l : List (ByteArray × ByteArray)
  first : Int
  pins : Int
def noFr : FrD := ⟨0, .slice none 0 0, [], 0, 0⟩
/-- A frame in block F. -/
structure FrIs (W : World) (F : Nat) (no : Int) (x : FrD) : Prop where
  p : Pg3 W F no x.g x.v
  f0 : W.cell? ⟨F, 3, none⟩ = some (.int .i64 x.first)
  f1 : W.cell? ⟨F, 4, none⟩ = some (.int .i64 x.pins)
  row : RowC W 0 x.v x.l
  sm : x.l.length ≤ 1000
theorem row_block {W X : World} {v : Value} {l : List (ByteArray × ByteArray)} (h : RowC W 0 v l) (hb : ∀ r, v.ownBlock = some r → X.heap[r]? = W.heap[r]?) : RowC X 0 v l := by
  obtain ⟨h1, h2⟩ := h
  refine ⟨h1, ?_⟩
  rcases h2 with h2 | ⟨g, cap, cur, hv, hg, hc, r⟩
  · exact .inl h2
  · exact .inr ⟨g, cap, cur, hv, hg, (hb g (by rw [hv]; rfl)).trans hc, r⟩
theorem FrIs.of_blocks {W X : World} {F : Nat} {no : Int} {x : FrD} (h : FrIs W F no x) (hF : X.heap[F]? = W.heap[F]?) (hr : ∀ r, x.v.ownBlock = some r → X.heap[r]? = W.heap[r]?) : FrIs X F no x :=
  ⟨h.p.of_block hF, (World.cell?_of_block (a := ⟨F, 3, none⟩) hF).trans h.f0, (World.cell?_of_block (a := ⟨F, 4, none⟩) hF).trans h.f1, row_block h.row hr, h.sm⟩
theorem row_lt {W : World} {v : Value} {l : List (ByteArray × ByteArray)} {B r : Nat} (h : RowC W B v l) (e : v.ownBlock = some r) : r < W.heap.size := (World.ownsRow.lt h r e).2
/-- A pool in memory. -/
structure PlS (w W : World) (D P L M n B T np : Nat) (now : Nat → Pg) (Q room MF k : Nat) (o : Int → Option Nat) (fv : Int → FrD) : Prop where
  tk : Tk w W D P L M n B T np now .on
  q0 : W.cell? ⟨Q, 0, none⟩ = some (.pointer (some ⟨T, 0, none⟩))
  q1 : W.cell? ⟨Q, 1, none⟩ = some (.int .i64 (room : Int))
  q2 : W.cell? ⟨Q, 2, none⟩ = some (.map (some MF))
  mp : FrAt W MF k o
  fr : ∀ i F, o i = some F → FrIs W F i (fv i)
  qs : Q ≠ P ∧ Q ≠ L ∧ Q ≠ M ∧ Q ≠ MF
  ms : MF ≠ P ∧ MF ≠ L ∧ MF ≠ M
  fs : ∀ i F, o i = some F → F ≠ P ∧ F ≠ L ∧ F ≠ M ∧ F ≠ Q ∧ F ≠ MF
  rs : ∀ i F r, o i = some F → (fv i).v.ownBlock = some r → (r ≠ P ∧ r ≠ L ∧ r ≠ M ∧ r ≠ Q ∧ r ≠ MF) ∧ ∀ j F', o j = some F' → r ≠ F'
  inj : ∀ i j F, o i = some F → o j = some F → i = j
  lo : w.heap.size ≤ Q ∧ w.heap.size ≤ MF ∧ ∀ i F, o i = some F → w.heap.size ≤ F
  keys : ∀ i, (o i).isSome = true → 0 ≤ i ∧ i < (np : Int)
section
variable {w W X : World} {D P L M n B T np Q room MF k : Nat} {now : Nat → Pg} {o : Int → Option Nat} {fv : Int → FrD}
theorem PlS.lts (h : PlS w W D P L M n B T np now Q room MF k o fv) : Q < W.heap.size ∧ MF < W.heap.size ∧ ∀ i F, o i = some F → F < W.heap.size :=
  ⟨Dv.block_lt h.q0, h.mp.lt, fun i F e => (h.fr i F e).p.lt⟩
theorem PlS.bw (h : PlS w W D P L M n B T np now Q room MF k o fv) : Below w.heap.size w W := h.tk.bw
/-- All that a pool has of its own stays, its device turns. -/
theorem PlS.turn {B' : Nat} {now' : Nat → Pg} (h : PlS w W D P L M n B T np now Q room MF k o fv) (ht : Tk w X D P L M n B' T np now' .on) (hb : ∀ b, b < W.heap.size → b ≠ P → b ≠ L → b ≠ M → X.heap[b]? = W.heap[b]?) : PlS w X D P L M n B' T np now' Q room MF k o fv := by
  obtain ⟨l1, l2, l3⟩ := h.lts
  have hQ := hb Q l1 h.qs.1 h.qs.2.1 h.qs.2.2.1
  exact { h with
    tk := ht
    q0 := (World.cell?_of_block (a := ⟨Q, 0, none⟩) hQ).trans h.q0
    q1 := (World.cell?_of_block (a := ⟨Q, 1, none⟩) hQ).trans h.q1
    q2 := (World.cell?_of_block (a := ⟨Q, 2, none⟩) hQ).trans h.q2
    mp := h.mp.of_block (hb MF l2 h.ms.1 h.ms.2.1 h.ms.2.2)
    fr := fun i F e => (h.fr i F e).of_blocks (hb F (l3 i F e) (h.fs i F e).1 (h.fs i F e).2.1 (h.fs i F e).2.2.1) (fun r hr => hb r (row_lt (h.fr i F e).row hr) (h.rs i F r e hr).1.1 (h.rs i F r e hr).1.2.1 (h.rs i F r e hr).1.2.2.1) }
theorem PlS.below (h : PlS w W D P L M n B T np now Q room MF k o fv) (hb : Below W.heap.size W X) : PlS w X D P L M n B T np now Q room MF k o fv :=
  h.turn (h.tk.below hb) (fun b hl _ _ _ => hb.block b hl)
theorem PlS.fr3 {B' : Nat} {now' : Nat → Pg} (h : PlS w W D P L M n B T np now Q room MF k o fv) (ht : Tk w X D P L M n B' T np now' .on) (hf : Dv.Fr3 P L M W X) : PlS w X D P L M n B' T np now' Q room MF k o fv :=
  h.turn ht (fun b hl h1 h2 h3 => hf.block b hl h1 h2 h3)
end
end Go.Proofs.YtpkbopeddhgnlaaGreatDoor
