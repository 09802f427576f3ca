/-
  SpaceNotes: acts; great; what stays while an act is done.
-/
import Derived.Test.YtjjbdkgnkieliaaSpNotesA
namespace Go.Proofs.Ytjjbdkgnkieliaa
open Go.RowKit
/-- An act. -/
structure NAct where
  k : Int
  t : Int
  ma : Option Addr
  ml : List Int
  mc : Nat
def NAct.cells (x : NAct) : Array Value := #[.int .i64 x.k, .int .i64 x.t, .slice x.ma x.ml.length x.mc]
structure NAOk (W : World) (x : NAct) : Prop where
  wk : (Lit.int .i64 x.k).wf = true
  wt : (Lit.int .i64 x.t).wf = true
  z : Ints64 x.ml
  a : IntsAt W x.ma x.ml
  n : x.ml.length ≤ maxLen
def noNA : NAct := ⟨0, 0, none, [], 0⟩
def NActs (w : World) (a : Option Addr) (l : List NAct) : Prop :=
  l = [] ∨ ∃ b off, a = some ⟨b, off, none⟩ ∧ ∀ i, i < l.length → w.cell? ⟨b, off + i * 3, none⟩ = some (.int .i64 (l.getD i noNA).k) ∧ w.cell? ⟨b, off + i * 3 + 1, none⟩ = some (.int .i64 (l.getD i noNA).t) ∧ w.cell? ⟨b, off + i * 3 + 2, none⟩ = some (.slice (l.getD i noNA).ma (l.getD i noNA).ml.length (l.getD i noNA).mc)
def greatN (l : List NAct) : Bool := decide (60 < l.length) || l.any (fun x => decide (10 < x.ml.length))
set_option maxHeartbeats 4000000 in
theorem greatN_any {w : World} {a : Option Addr} {l : List NAct} (h : NActs w a l) (c : Nat) (hn : l.length ≤ maxLen) : Calls Try.prog 7 #[.slice a l.length c] w fun e w' => e = .returned (.bool (greatN l)) ∧ w = w' := by
  unfold maxLen at hn
  by_cases h60 : 60 < l.length
  · have h1 : (60 : Int) < (l.length : Int) := by omega
    have hg : greatN l = true := by unfold greatN; rw [decide_eq_true h60]; rfl
    rw [hg]
    go_enter Try.func7, Try.ntmps7
    go_wp2
    go_ret
    exact ⟨rfl, rfl⟩
  · have h1 : (l.length : Int) ≤ 60 := by omega
    have h60' : l.length ≤ 60 := by omega
    have HA := Lib.hid h
    clear h
    obtain ⟨n, hn0⟩ : ∃ n, n = l.length := ⟨_, rfl⟩
    have HN := Lib.hid hn0
    have hG : greatN l = l.any (fun x => decide (10 < x.ml.length)) := by unfold greatN; rw [decide_eq_false h60]; rfl
    have HG := Lib.hid hG
    rw [← hn0] at h1 h60' ⊢
    clear hn0 h60 hn hG
    go_enter Try.func7, Try.ntmps7
    go_wp2
    go_loopw [3] (fun i w' => w = w' ∧ ∃ k : Nat, k ≤ n ∧ i = .int .i64 k ∧ Hid ((l.take k).any (fun x => decide (10 < x.ml.length)) = false)) (fun i _ => n - (intOf i).toNat)
    case atStart => exact ⟨rfl, 0, Nat.zero_le _, rfl, rfl⟩
    case round =>
      obtain ⟨rfl, k, hk, rfl, hs⟩ := hrel
      by_cases hlt : k < n
      · have hkl : k < l.length := by have := HN.out; omega
        obtain ⟨b, off, rfl, hc⟩ : ∃ b off, a = some ⟨b, off, none⟩ ∧ ∀ i, i < l.length → w.cell? ⟨b, off + i * 3 + 2, none⟩ = some (.slice (l.getD i noNA).ma (l.getD i noNA).ml.length (l.getD i noNA).mc) := by
          rcases HA.out with h | ⟨b, off, e, h⟩
          · rw [h] at hkl; simp at hkl
          · exact ⟨b, off, e, fun i hi => (h i hi).2.2⟩
        have x2 := hc k hkl
        have htk : l.take (k + 1) = l.take k ++ [l.getD k noNA] := by
          rw [List.take_succ_eq_append_getElem hkl]; simp [List.getD_eq_getElem?_getD, hkl]
        have hlt' : (k : Int) < (n : Int) := by omega
        have HTK := Lib.hid htk
        have HMEM : Hid (l.getD k noNA ∈ l) := by
          rw [List.getD_eq_getElem?_getD, List.getElem?_eq_getElem hkl]; exact List.getElem_mem hkl
        obtain ⟨y, hy⟩ : ∃ y, y = l.getD k noNA := ⟨_, rfl⟩
        rw [← hy] at x2 HTK HMEM
        obtain ⟨m, hm⟩ : ∃ m, m = y.ml.length := ⟨_, rfl⟩
        rw [← hm] at x2
        have HM := Lib.hid hm
        clear hc hy htk hm
        by_cases hbig : 10 < m
        · have hb : (10 : Int) < (m : Int) := by omega
          have hT : greatN l = true := by
            rw [HG.out]
            exact List.any_eq_true.2 ⟨y, HMEM.out, by rw [← HM.out]; exact decide_eq_true hbig⟩
          have HT := Lib.hid hT
          clear hT hs HG
          go_wp2
          go_ret
          exact ⟨by rw [HT.out]; rfl, rfl⟩
        · have hb : (m : Int) ≤ 10 := by omega
          have hN : Hid ((l.take (k + 1)).any (fun x => decide (10 < x.ml.length)) = false) := by
            rw [Hid, HTK.out, List.any_append, hs.out]
            simp only [List.any_cons, List.any_nil, Bool.or_false, Bool.false_or]
            rw [← HM.out]; exact decide_eq_false hbig
          clear hs HG
          go_wp2
          go_round
          case rel => exact ⟨trivial, k + 1, by omega, by go_num, hN⟩
          case measure => simp [intOf]; omega
      · have hF : greatN l = false := by
          have e : k = n := by omega
          have h2 := hs.out
          rw [e, HN.out, List.take_length] at h2
          rw [HG.out]; exact h2
        have HF := Lib.hid hF
        clear hF hs HG
        go_wp2
        go_ret
        exact ⟨by rw [HF.out]; rfl, rfl⟩
theorem greatN_no {l : List NAct} (h : greatN l = false) : l.length ≤ 60 ∧ ∀ i, i < l.length → (l.getD i noNA).ml.length ≤ 10 := by
  unfold greatN at h
  simp only [Bool.or_eq_false_iff, decide_eq_false_iff_not] at h
  refine ⟨by omega, fun i hi => ?_⟩
  have h2 := List.any_eq_false.1 h.2 (l.getD i noNA) (by rw [List.getD_eq_getElem?_getD, List.getElem?_eq_getElem hi]; exact List.getElem_mem hi)
  simp only [decide_eq_true_eq] at h2
  omega
/-- What the law keeps: a book, and a row of needs. -/
structure NtS (W w : World) (B S T A n : Nat) (v : Value) (L : List Nd) (o : Int → Option Nat) (b : Book) : Prop where
  sp : SpIn w S T A n o b.1 b.2
  ok : NotOk b L
  row : NdRow w B v L
  bel : Below W.heap.size W w
  size : B ≤ w.heap.size
  sB : S < B
  wB : W.heap.size ≤ B
  bT : W.heap.size ≤ T
  bA : W.heap.size ≤ A
  bo : ∀ t x, o t = some x → W.heap.size ≤ x
section
variable {W w w' : World} {B S T A n : Nat} {v v' : Value} {L L' : List Nd} {o o' : Int → Option Nat} {b b' : Book}
theorem NtS.below (h : NtS W w B S T A n v L o b) (hb : Below w.heap.size w w') : NtS W w' B S T A n v L o b :=
  { h with sp := h.sp.below hb, row := World.ownsRow.kept (row := none) h.row ⟨hb.os, hb.tape, hb.output, hb.size, fun i hi _ => hb.block i hi⟩ (by cases v.ownBlock <;> simp), bel := h.bel.trans (hb.mono h.bel.size), size := Nat.le_trans h.size hb.size }
/-- Behind a call of the book's. -/
theorem NtS.book (h : NtS W w B S T A n v L o b) {n' : Nat} (s : SpIn w' S T A n' o' b'.1 b'.2) (f : SpFr w w' T A o o') (ok : NotOk b' L') (hr : NdRow w' B v' L') : NtS W w' B S T A n' v' L' o' b' :=
  { h with
    sp := s, ok := ok, row := hr
    bel := h.bel.trans (f.below h.bel.size h.bT h.bA h.bo)
    size := Nat.le_trans h.size f.size
    bo := fun t x e => by
      rcases f.own t x e with e | e
      · exact h.bo t x e
      · exact Nat.le_trans h.bel.size e }
theorem NtS.left (h : NtS W w B S T A n v L o b) (f : SpFr w w' T A o o') : Below W.heap.size W w' ∧ ∀ t x, o' t = some x → W.heap.size ≤ x :=
  ⟨h.bel.trans (f.below h.bel.size h.bT h.bA h.bo), fun t x e => by
    rcases f.own t x e with e | e
    · exact h.bo t x e
    · exact Nat.le_trans h.bel.size e⟩
theorem NtS.rowFr (h : NtS W w B S T A n v L o b) (f : SpFr w w' T A o o') : NdRow w' B v L := ownsRow_fr h.sp h.row f
end
end Go.Proofs.Ytjjbdkgnkieliaa
