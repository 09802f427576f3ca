/-
  WHAT PoolOwn WANTS BESIDE: a pool over an elder base, a block of texts that is written.
-/
import Derived.Test.YtpkbopeddhgnlaaGreatDoorPlChangeA
import Derived.Test.YtpkbopeddhgnlaaGreatDoorPlAwake
namespace Go.Proofs.YtpkbopeddhgnlaaGreatDoor
open Go.RowKit
section
variable {w W X : World} {D P L M n B T np Q room MF k : Nat} {now : Nat → Pg} {o : Int → Option Nat} {fv : Int → FrD}
theorem Tk.rebase {w0 : World} {pm : Pm} (h : Tk w W D P L M n B T np now pm) (hb : Below w0.heap.size w0 w) (ht : Tab w0) : Tk w0 W D P L M n B T np now pm := by
  obtain ⟨s, h1, h2, h3⟩ := h
  have hs := hb.size
  have lo := h1.lo
  exact ⟨s, { h1 with bw := hb.trans (h1.bw.mono hs), lo := ⟨by omega, by omega, by omega⟩, tab := ht }, h2, h3⟩
theorem PlS.rebase {w0 : World} (h : PlS w W D P L M n B T np now Q room MF k o fv) (hb : Below w0.heap.size w0 w) (ht : Tab w0) : PlS w0 W D P L M n B T np now Q room MF k o fv :=
  { h with tk := h.tk.rebase hb ht, lo := ⟨Nat.le_trans hb.size h.lo.1, Nat.le_trans hb.size h.lo.2.1, fun i F e => Nat.le_trans hb.size (h.lo.2.2 i F e)⟩ }
/-- A block of texts that is none of a pool's is written. -/
theorem PlS.otherS {b : Nat} (h : PlS w W D P L M n B T np now Q room MF k o fv) (hg : W.grownBy X (some b)) (hne : b ≠ P ∧ b ≠ L ∧ b ≠ M) (hc : ∃ z, W.cell? ⟨b, 0, none⟩ = some (.string z)) (hF : ∀ i F, o i = some F → F ≠ b) (hr : ∀ i F r, o i = some F → (fv i).v.ownBlock = some r → r ≠ b) (hl : w.heap.size ≤ b) : PlS w X D P L M n B T np now Q room MF k o fv := by
  obtain ⟨l1, l2, l3⟩ := h.lts
  obtain ⟨⟨v1, c1⟩, ⟨v2, c2⟩⟩ := h.tk.cells
  obtain ⟨z, hz⟩ := hc
  have nD : b ≠ D := by rintro rfl; rw [c1] at hz; cases hz
  have nT : b ≠ T := by rintro rfl; rw [c2] at hz; cases hz
  have nQ : b ≠ Q := by rintro rfl; have := h.q0; rw [this] at hz; cases hz
  have nM := map_ne h.mp hz
  have key : ∀ c, c < W.heap.size → b ≠ c → X.heap[c]? = W.heap[c]? := fun c hc hx => hg.block c hc (by intro e; injection e with e; exact hx e.symm)
  have hQ := key Q l1 nQ
  exact { h with
    tk := h.tk.write hg nD hne.1 hne.2.1 hne.2.2 nT hl
    q0 := (World.cell?_of_block (a := ⟨Q, 0, none⟩) hQ).trans h.q0
    q1 := (World.cell?_of_block (a := ⟨Q, 1, none⟩) hQ).trans h.q1
    q2 := (World.cell?_of_block (a := ⟨Q, 2, none⟩) hQ).trans h.q2
    mp := h.mp.of_block (key MF l2 (fun e => nM e.symm))
    fr := fun i F e => (h.fr i F e).of_blocks (key F (l3 i F e) (fun q => hF i F e q.symm)) (fun r hr' => key r (row_lt (h.fr i F e).row hr') (fun q => hr i F r e hr' q.symm)) }
/-- The row of one cell: its block, what it holds, and that it may be written. -/
theorem row_cell {B0 : Nat} {a : Option Addr} {c : Nat} {ky vl : ByteArray} (h : RowC W B0 (.slice a 1 c) [(ky, vl)]) : ∃ G, a = some ⟨G, 0, none⟩ ∧ B0 ≤ G ∧ W.cell? ⟨G, 0, none⟩ = some (.string ky) ∧ W.cell? ⟨G, 1, none⟩ = some (.string vl) ∧ W.frozen? ⟨G, 0, none⟩ = false ∧ W.frozen? ⟨G, 1, none⟩ = false := by
  have hform : ∃ G, a = some ⟨G, 0, none⟩ ∧ B0 ≤ G := by
    rcases h.2 with ⟨hv, h0⟩ | ⟨G, c0, cur, hv, hG, _⟩
    · injection hv with _ h1 _; omega
    · injection hv with h1 _ _; exact ⟨G, h1, hG⟩
  obtain ⟨G, rfl, hG⟩ := hform
  exact ⟨G, rfl, hG, World.ownsRow.cellAt h 0 (by decide), World.ownsRow.cellAt h 1 (by decide), World.ownsRow.frozenAt h 0, World.ownsRow.frozenAt h 1⟩
end
end Go.Proofs.YtpkbopeddhgnlaaGreatDoor
