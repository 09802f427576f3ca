/-
  ROWS OF MOVES beside a book; a slice of moves, and of bytes, that came in.
-/
import Derived.Test.YtjjbdkgnkieliaaSpBackP
namespace Go.Proofs.Ytjjbdkgnkieliaa
open Go.RowKit
section
variable {W W' : World} {S T A n : Nat} {o o' : Int → Option Nat} {g : Int → Int → Int} {a : Int → Int}
theorem SpIn.maps (h : SpIn W S T A n o g a) : (∃ es c, W.heap[T]? = some (.map es c)) ∧ (∃ es c, W.heap[A]? = some (.map es c)) ∧ ∀ t b, o t = some b → ∃ es c, W.heap[b]? = some (.map es c) := by
  refine ⟨?_, ?_, fun t b e => ?_⟩
  · obtain ⟨D, ⟨es, c, hb, _⟩, _⟩ := h.ot; exact ⟨es, c, hb⟩
  · obtain ⟨D, ⟨es, c, hb, _⟩, _⟩ := h.al; exact ⟨es, c, hb⟩
  · obtain ⟨D, ⟨es, c, hb, _⟩, _⟩ := h.inn t b e; exact ⟨es, c, hb⟩
/-- A block of cells is none of the book's maps. -/
theorem SpIn.not_cells (h : SpIn W S T A n o g a) {k : Nat} {cs : Array Value} {e : TypeId} {z : Nat × Nat} (hk : W.heap[k]? = some (.cells cs e z)) : k ≠ T ∧ k ≠ A ∧ ∀ t, o t ≠ some k := by
  obtain ⟨⟨_, _, h1⟩, ⟨_, _, h2⟩, h3⟩ := h.maps
  refine ⟨fun e => ?_, fun e => ?_, fun t e => ?_⟩
  · subst e; rw [h1] at hk; cases hk
  · subst e; rw [h2] at hk; cases hk
  · obtain ⟨_, _, h4⟩ := h3 t k e
    rw [h4] at hk; cases hk
theorem SpIn.apart (h : SpIn W S T A n o g a) {x : Addr} {v : Value} (hc : W.cell? x = some v) : x.block < W.heap.size ∧ x.block ≠ T ∧ x.block ≠ A ∧ ∀ t, o t ≠ some x.block := by
  have hl := block_lt hc
  refine ⟨hl, ?_⟩
  have hx : ∃ cs e z, W.heap[x.block]? = some (.cells cs e z) := by
    unfold World.cell? at hc
    rw [Array.getElem?_eq_getElem hl] at hc ⊢
    cases hq : W.heap[x.block] with
    | cells cs e z => exact ⟨cs, e, z, rfl⟩
    | _ => rw [hq] at hc; simp at hc
  obtain ⟨cs, e, z, hq⟩ := hx
  exact h.not_cells hq
/-- The book's calls leave a row alone. -/
theorem ownsRow_fr {B size k : Nat} {e : TypeId} {v : Value} {xs : List Value} (h : SpIn W S T A n o g a) (hr : W.ownsRow B e size v k xs) (hf : SpFr W W' T A o o') : W'.ownsRow B e size v k xs := by
  refine ⟨hr.1, ?_⟩
  rcases hr.2 with hn | ⟨q, cap, cur, rfl, hb, hgg, rest⟩
  · exact .inl hn
  · obtain ⟨h1, h2, h3⟩ := h.not_cells hgg
    refine .inr ⟨q, cap, cur, rfl, hb, ?_, rest⟩
    rw [hf.block q (Array.getElem?_eq_some_iff.1 hgg).1 h1 h2 h3]
    exact hgg
/-- What is done to a row leaves the book alone. -/
theorem SpIn.row {B size k : Nat} {e : TypeId} {v : Value} {xs : List Value} (h : SpIn W S T A n o g a) (hS : S < B) (hr : W.ownsRow B e size v k xs) (hg : W.grownBy W' v.ownBlock) : SpIn W' S T A n o g a := by
  obtain ⟨l1, l2, l3, l4⟩ := h.lts
  have key : ∀ j, j < W.heap.size → v.ownBlock ≠ some j → W'.heap[j]? = W.heap[j]? := fun j hj hx => hg.block j hj (fun e => hx e.symm)
  have hno : ∀ j es c, W.heap[j]? = some (.map es c) → v.ownBlock ≠ some j := fun j es c hj e => by
    rcases hr.2 with ⟨rfl, _⟩ | ⟨q, cap, cur, rfl, hb, hgg, _⟩
    · cases e
    · have : q = j := by simpa [Value.ownBlock] using e
      subst this; rw [hgg] at hj; cases hj
  obtain ⟨⟨_, _, h1⟩, ⟨_, _, h2⟩, h3⟩ := h.maps
  refine h.of_blocks (key S l1 (fun e => ?_)) (key T l2 (hno T _ _ h1)) (key A l3 (hno A _ _ h2)) (fun t b e => ?_)
  · have := (hr.lt S e).1; omega
  · obtain ⟨_, _, h4⟩ := h3 t b e
    exact key b (l4 t b e) (hno b _ _ h4)
end
/-- A slice of moves that came in. -/
def MvsAt (w : World) (a : Option Addr) (l : List Mv) : Prop :=
  l = [] ∨ ∃ b off, a = some ⟨b, off, none⟩ ∧ ∀ i, i < l.length → w.cell? ⟨b, off + i * 2, none⟩ = some (.int .u8 ((l.getD i noMv).1 : Int)) ∧ w.cell? ⟨b, off + i * 2 + 1, none⟩ = some (.bool (l.getD i noMv).2)
def U8s (w : World) (a : Option Addr) (l : List Nat) : Prop :=
  l = [] ∨ ∃ b off, a = some ⟨b, off, none⟩ ∧ ∀ i, i < l.length → w.cell? ⟨b, off + i, none⟩ = some (.int .u8 (l.getD i 0 : Nat))
theorem infoMv : (Try.prog.info? 48).map (fun i => (i.zero, i.size, i.bytes)) = some (some (.agg #[.int .u8 0, .bool false]), 2, 2) := by kernel_rfl
theorem info_partsMv : ∃ i, Try.prog.info? 48 = some i ∧ i.zero = some (.agg #[.int .u8 0, .bool false]) ∧ i.size = 2 ∧ i.bytes = 2 := by
  obtain ⟨i, hi, hzz⟩ := Option.map_eq_some_iff.1 infoMv
  simp only [Prod.mk.injEq] at hzz
  exact ⟨i, hi, hzz.1, hzz.2.1, hzz.2.2⟩
theorem mv_to (g L cap k : Nat) (hk : k ≤ L) (hL : L ≤ cap) (W : World) : (Instr.slice 45 (.slice (some ⟨g, 0, none⟩) L cap) none (some (.int .i64 (k : Int))) none).run Try.prog W = .ok (.slice (some ⟨g, 0, none⟩) k cap) W := by
  have e : Try.prog.elem 45 = 48 := by kernel_rfl
  have hr : (Instr.slice 45 (.slice (some ⟨g, 0, none⟩) L cap) none (some (.int .i64 (k : Int))) none).run Try.prog W = .ok (sliced (some ⟨g, 0, none⟩) 0 k cap 2) W := by
    rw [run_slice_h (P := Try.prog) (w := W) 45 (some ⟨g, 0, none⟩) L cap (by rw [e]; exact Try.underlying45) .i64 (k : Int) (by omega) (by omega), e, Try.sizeOf48, Int.toNat_natCast]; rfl
  rw [hr]
  unfold sliced
  by_cases hc : cap = 0
  · simp [hc]
  · rw [if_neg hc]; simp [Addr.add]
/-- Where the rest of a row begins. -/
def restAt (g cap b : Nat) : Addr := if cap = b then ⟨g, 0, none⟩ else ⟨g, b * 2, none⟩
theorem mv_from (g L cap b : Nat) (hb : b ≤ L) (W : World) : (Instr.slice 45 (.slice (some ⟨g, 0, none⟩) L cap) (some (.int .i64 (b : Int))) none none).run Try.prog W = .ok (.slice (some (restAt g cap b)) (L - b) (cap - b)) W := by
  have e : Try.prog.elem 45 = 48 := by kernel_rfl
  have hr : (Instr.slice 45 (.slice (some ⟨g, 0, none⟩) L cap) (some (.int .i64 (b : Int))) none none).run Try.prog W = .ok (sliced (some ⟨g, 0, none⟩) b L cap 2) W := by
    rw [run_slice_l (P := Try.prog) (w := W) 45 (some ⟨g, 0, none⟩) L cap (by rw [e]; exact Try.underlying45) .i64 (b : Int) (by omega) (by omega), e, Try.sizeOf48, Int.toNat_natCast]; rfl
  rw [hr]
  unfold sliced restAt
  by_cases hc : cap = b
  · simp [hc]
  · rw [if_neg hc, if_neg hc]; simp [Addr.add]; intro h; exact h.symm
theorem row_cell {w : World} {B g cap : Nat} {l : List Mv} (h : w.ownsRow B 48 2 (.slice (some ⟨g, 0, none⟩) l.length cap) l.length (flat l)) (i : Nat) (hi : i < l.length) : w.cell? ⟨g, i * 2, none⟩ = some (.int .u8 ((l.getD i noMv).1 : Int)) ∧ w.cell? ⟨g, i * 2 + 1, none⟩ = some (.bool (l.getD i noMv).2) := by
  have h1 := flat_at l i hi
  rw [h.cellAt (i * 2) (by omega), h.cellAt (i * 2 + 1) (by omega), Nat.mul_comm i 2]
  exact h1
theorem row_src1 {w : World} {B g cap : Nat} {l : List Mv} (h : w.ownsRow B 48 2 (.slice (some ⟨g, 0, none⟩) l.length cap) l.length (flat l)) (k : Nat) (hk : k ≤ l.length) : ∀ j u, (flat (l.take k))[j]? = some u → w.cell? ((⟨g, 0, none⟩ : Addr).add j) = some u := by
  intro j u hj
  have hlt : j < k * 2 := by
    have h1 := (List.getElem?_eq_some_iff.1 hj).1
    rw [flat_len, List.length_take] at h1; omega
  have e : flat l = flat (l.take k) ++ flat (l.drop k) := by rw [← flat_append, List.take_append_drop]
  have e2 : (⟨g, 0, none⟩ : Addr).add j = ⟨g, j, none⟩ := by unfold Addr.add; split <;> simp_all
  rw [e2, h.cellAt j (by omega), e, List.getElem?_append_left (by rw [flat_len, List.length_take]; omega)]
  exact hj
theorem row_src2 {w : World} {B g cap : Nat} {l : List Mv} (h : w.ownsRow B 48 2 (.slice (some ⟨g, 0, none⟩) l.length cap) l.length (flat l)) (k : Nat) (hk : k ≤ l.length) (hc : l.length ≤ cap) : ∀ j u, (flat (l.drop k))[j]? = some u → w.cell? ((restAt g cap k).add j) = some u := by
  intro j u hj
  have hlt : j < (l.length - k) * 2 := by
    have h1 := (List.getElem?_eq_some_iff.1 hj).1
    rw [flat_len, List.length_drop] at h1; omega
  have e : flat l = flat (l.take k) ++ flat (l.drop k) := by rw [← flat_append, List.take_append_drop]
  have e2 : (restAt g cap k).add j = ⟨g, k * 2 + j, none⟩ := by
    unfold restAt
    rw [if_neg (by omega)]
    unfold Addr.add; split <;> simp_all
  rw [e2, h.cellAt (k * 2 + j) (by omega), e, List.getElem?_append_right (by rw [flat_len, List.length_take]; omega), flat_len, List.length_take, Nat.min_eq_left hk, Nat.add_sub_cancel_left]
  exact hj
theorem row_form {w : World} {B : Nat} {v : Value} {l : List Mv} (h : w.ownsRow B 48 2 v l.length (flat l)) : ∃ a c, v = .slice a l.length c := by
  rcases h.2 with ⟨rfl, h0⟩ | ⟨q, cap, cur, rfl, _⟩
  · exact ⟨none, 0, by rw [h0]⟩
  · exact ⟨_, _, rfl⟩
theorem row_some {w : World} {B : Nat} {v : Value} {l : List Mv} (h : w.ownsRow B 48 2 v l.length (flat l)) (h0 : 0 < l.length) : ∃ g c, v = .slice (some ⟨g, 0, none⟩) l.length c ∧ l.length ≤ c ∧ B ≤ g := by
  rcases h.2 with ⟨rfl, h0⟩ | ⟨q, cap, cur, rfl, hb, _, hc, _⟩
  · omega
  · exact ⟨q, cap, rfl, hc, hb⟩
end Go.Proofs.Ytjjbdkgnkieliaa
