/-
  LAW 05's MODEL OF A DEVICE IN MEMORY; a device and its model side by side.
-/
import Derived.Test.YtobgopiadfinbaaDpMd
namespace Go.Proofs.Ytobgopiadfinbaa
open Go.RowKit
structure MdAt (W : World) (MB gl gn cl cn : Nat) (sa : Option Addr) (sc n : Nat) (lt nt : Nat → ByteArray) (ls : List Int) : Prop where
  c0 : W.cell? ⟨MB, 0, none⟩ = some (.slice (some ⟨gl, 0, none⟩) n cl)
  c1 : W.cell? ⟨MB, 1, none⟩ = some (.slice (some ⟨gn, 0, none⟩) n cn)
  c2 : W.cell? ⟨MB, 2, none⟩ = some (.slice sa ls.length sc)
  fz : ∀ i, W.frozen? ⟨MB, i, none⟩ = false
  rl : ∀ i, i < n → W.cell? ⟨gl, i, none⟩ = some (.string (lt i))
  rn : ∀ i, i < n → W.cell? ⟨gn, i, none⟩ = some (.string (nt i))
  fl : ∀ i, W.frozen? ⟨gl, i, none⟩ = false
  fn : ∀ i, W.frozen? ⟨gn, i, none⟩ = false
  rs : IntsAt W sa ls
  ne : MB ≠ gl ∧ MB ≠ gn ∧ gl ≠ gn
  sb : ∀ b off, sa = some ⟨b, off, none⟩ → b ≠ MB ∧ b ≠ gl ∧ b ≠ gn ∧ b < W.heap.size
  n1 : 1 ≤ n
  cp : n ≤ cl ∧ n ≤ cn
section
variable {W X : World} {MB gl gn cl cn : Nat} {sa : Option Addr} {sc n : Nat} {lt nt : Nat → ByteArray} {ls : List Int} {S : List Nat}
theorem MdAt.lts (h : MdAt W MB gl gn cl cn sa sc n lt nt ls) : MB < W.heap.size ∧ gl < W.heap.size ∧ gn < W.heap.size :=
  ⟨block_lt (p := ⟨MB, 0, none⟩) h.c0, block_lt (p := ⟨gl, 0, none⟩) (h.rl 0 h.n1), block_lt (p := ⟨gn, 0, none⟩) (h.rn 0 h.n1)⟩
theorem ints_ch {a : Option Addr} {l : List Int} (h : IntsAt W a l) (hc : Ch W X S) (hs : ∀ b off, a = some ⟨b, off, none⟩ → b ∉ S) : IntsAt X a l := by
  rcases h with h | ⟨b, off, e, h⟩
  · exact .inl h
  · exact .inr ⟨b, off, e, fun i hi => hc.cell (h i hi) (hs b off e)⟩
theorem MdAt.ch (h : MdAt W MB gl gn cl cn sa sc n lt nt ls) (hc : Ch W X S) (hg : MB ∉ S ∧ gl ∉ S ∧ gn ∉ S) (hs : ∀ b off, sa = some ⟨b, off, none⟩ → b ∉ S) : MdAt X MB gl gn cl cn sa sc n lt nt ls :=
  ⟨hc.cell h.c0 hg.1, hc.cell h.c1 hg.1, hc.cell h.c2 hg.1, fun i => hc.frz (h.fz i) hg.1 h.lts.1, fun i hi => hc.cell (h.rl i hi) hg.2.1, fun i hi => hc.cell (h.rn i hi) hg.2.2, fun i => hc.frz (h.fl i) hg.2.1 h.lts.2.1, fun i => hc.frz (h.fn i) hg.2.2 h.lts.2.2, ints_ch h.rs hc hs, h.ne, fun b off e => ⟨(h.sb b off e).1, (h.sb b off e).2.1, (h.sb b off e).2.2.1, Nat.lt_of_lt_of_le (h.sb b off e).2.2.2 hc.size⟩, h.n1, h.cp⟩
theorem MdAt.below (h : MdAt W MB gl gn cl cn sa sc n lt nt ls) (hb : Below W.heap.size W X) : MdAt X MB gl gn cl cn sa sc n lt nt ls := h.ch (S := []) (Ch.of_below hb) (by simp) (by simp)
def put1 (t : Nat → ByteArray) (i : Nat) (s : ByteArray) : Nat → ByteArray := fun k => if k = i then s else t k
theorem cell_set {g i : Nat} {v : Value} {b j : Nat} {u : Value} (h : W.cell? ⟨b, j, none⟩ = some u) (hb : b ≠ g) : (W.setCell ⟨g, i, none⟩ v).cell? ⟨b, j, none⟩ = some u := by
  rw [World.cell?_setCell_other _ _ _ _ (fun e => by injection e with e _; exact hb e.symm)]; exact h
theorem row_set {g i : Nat} {t : Nat → ByteArray} (h : ∀ j, j < n → W.cell? ⟨g, j, none⟩ = some (.string (t j))) (hi : i < n) (s : ByteArray) : ∀ j, j < n → (W.setCell ⟨g, i, none⟩ (.string s)).cell? ⟨g, j, none⟩ = some (.string (put1 t i s j)) := fun j hj => by
  unfold put1
  by_cases e : j = i
  · subst e
    rw [if_pos rfl]
    exact World.cell?_setCell_same _ _ _ (h j hj)
  · rw [if_neg e]
    exact setCell_at (h j hj) (fun x => e x.symm)
theorem ints_set {a : Option Addr} {l : List Int} {g i : Nat} {v : Value} (h : IntsAt W a l) (hs : ∀ b off, a = some ⟨b, off, none⟩ → b ≠ g) : IntsAt (W.setCell ⟨g, i, none⟩ v) a l := by
  rcases h with h | ⟨b, off, e, h⟩
  · exact .inl h
  · exact .inr ⟨b, off, e, fun i hi => cell_set (h i hi) (hs b off e)⟩
theorem size_set (W : World) (p : Addr) (v : Value) : (W.setCell p v).heap.size = W.heap.size := by simp [World.setCell]
theorem MdAt.setNow (h : MdAt W MB gl gn cl cn sa sc n lt nt ls) {i : Nat} (hi : i < n) (s : ByteArray) : MdAt (W.setCell ⟨gn, i, none⟩ (.string s)) MB gl gn cl cn sa sc n lt (put1 nt i s) ls :=
  ⟨cell_set h.c0 h.ne.2.1, cell_set h.c1 h.ne.2.1, cell_set h.c2 h.ne.2.1, fun i => by rw [World.frozen?_setCell]; exact h.fz i, fun i hi => cell_set (h.rl i hi) h.ne.2.2, row_set h.rn hi s, fun i => by rw [World.frozen?_setCell]; exact h.fl i, fun i => by rw [World.frozen?_setCell]; exact h.fn i, ints_set h.rs (fun b off e => (h.sb b off e).2.2.1), h.ne, fun b off e => by rw [size_set]; exact h.sb b off e, h.n1, h.cp⟩
theorem MdAt.setLast (h : MdAt W MB gl gn cl cn sa sc n lt nt ls) {i : Nat} (hi : i < n) (s : ByteArray) : MdAt (W.setCell ⟨gl, i, none⟩ (.string s)) MB gl gn cl cn sa sc n (put1 lt i s) nt ls :=
  ⟨cell_set h.c0 h.ne.1, cell_set h.c1 h.ne.1, cell_set h.c2 h.ne.1, fun i => by rw [World.frozen?_setCell]; exact h.fz i, row_set h.rl hi s, fun i hi => cell_set (h.rn i hi) (fun e => h.ne.2.2 e.symm), fun i => by rw [World.frozen?_setCell]; exact h.fl i, fun i => by rw [World.frozen?_setCell]; exact h.fn i, ints_set h.rs (fun b off e => (h.sb b off e).2.1), h.ne, fun b off e => by rw [size_set]; exact h.sb b off e, h.n1, h.cp⟩
theorem MdAt.setLoose (h : MdAt W MB gl gn cl cn sa sc n lt nt ls) {sa' : Option Addr} {sc' : Nat} {ls' : List Int} (hr : IntsAt W sa' ls') (hb : ∀ b off, sa' = some ⟨b, off, none⟩ → b ≠ MB ∧ b ≠ gl ∧ b ≠ gn ∧ b < W.heap.size) : MdAt (W.setCell ⟨MB, 2, none⟩ (.slice sa' ls'.length sc')) MB gl gn cl cn sa' sc' n lt nt ls' :=
  ⟨setCell_at h.c0 (by decide), setCell_at h.c1 (by decide), World.cell?_setCell_same _ _ _ h.c2, fun i => by rw [World.frozen?_setCell]; exact h.fz i, fun i hi => cell_set (h.rl i hi) (fun e => h.ne.1 e.symm), fun i hi => cell_set (h.rn i hi) (fun e => h.ne.2.1 e.symm), fun i => by rw [World.frozen?_setCell]; exact h.fl i, fun i => by rw [World.frozen?_setCell]; exact h.fn i, ints_set hr (fun b off e => (hb b off e).1), h.ne, fun b off e => by rw [size_set]; exact hb b off e, h.n1, h.cp⟩
theorem MdAt.setRow (h : MdAt W MB gl gn cl cn sa sc n lt nt ls) {g' c' : Nat} {t : Nat → ByteArray} (hr : ∀ i, i < n → W.cell? ⟨g', i, none⟩ = some (.string (t i))) (hf : ∀ i, W.frozen? ⟨g', i, none⟩ = false) (hne : g' ≠ MB ∧ g' ≠ gn) (hsb : ∀ b off, sa = some ⟨b, off, none⟩ → b ≠ g') (hc' : n ≤ c') : MdAt (W.setCell ⟨MB, 0, none⟩ (.slice (some ⟨g', 0, none⟩) n c')) MB g' gn c' cn sa sc n t nt ls :=
  ⟨World.cell?_setCell_same _ _ _ h.c0, setCell_at h.c1 (by decide), setCell_at h.c2 (by decide), fun i => by rw [World.frozen?_setCell]; exact h.fz i, fun i hi => cell_set (hr i hi) hne.1, fun i hi => cell_set (h.rn i hi) (fun e => h.ne.2.1 e.symm), fun i => by rw [World.frozen?_setCell]; exact hf i, fun i => by rw [World.frozen?_setCell]; exact h.fn i, ints_set h.rs (fun b off e => (h.sb b off e).1), ⟨hne.1.symm, h.ne.2.1, hne.2⟩, fun b off e => by rw [size_set]; exact ⟨(h.sb b off e).1, hsb b off e, (h.sb b off e).2.2⟩, h.n1, ⟨hc', h.cp.2⟩⟩
end
/-- What the model holds is what the device holds. -/
structure CR (n : Nat) (las : List (List UInt8)) (f : Int → Option (List UInt8)) (lt nt : Nat → ByteArray) (ls : List Int) : Prop where
  hl : ∀ i, i < n → lt i = txt (las.getD i blank64)
  hn : ∀ i, i < n → nt i = txt (secAt las f i)
  up : ls.Pairwise (· < ·)
  mem : ∀ z, z ∈ ls ↔ f z ≠ none
  len : ls.length ≤ n
theorem mem_putS {l : List Int} {x z : Int} : z ∈ putS l x ↔ z = x ∨ z ∈ l := by
  unfold putS
  simp only [List.mem_append, List.mem_filter, List.mem_cons, decide_eq_true_eq]
  constructor
  · rintro (⟨h, _⟩ | h | ⟨h, _⟩)
    · exact .inr h
    · exact .inl h
    · exact .inr h
  · rintro (h | h)
    · exact .inr (.inl h)
    · rcases Int.lt_trichotomy z x with q | q | q
      · exact .inl ⟨h, q⟩
      · exact .inr (.inl q)
      · exact .inr (.inr ⟨h, q⟩)
theorem putS_up {l : List Int} (h : l.Pairwise (· < ·)) (n : Int) : (putS l n).Pairwise (· < ·) := by
  unfold putS
  rw [List.pairwise_append]
  refine ⟨h.filter _, ?_, ?_⟩
  · rw [List.pairwise_cons]
    exact ⟨fun x hx => by simpa using (List.mem_filter.1 hx).2, h.filter _⟩
  · intro x hx y hy
    have h1 : x < n := by simpa using (List.mem_filter.1 hx).2
    rcases List.mem_cons.1 hy with e | e
    · rw [e]; exact h1
    · have h2 : n < y := by simpa using (List.mem_filter.1 e).2
      omega
/-- Numbers that rise and lie in a range are not many. -/
theorem up_len {l : List Int} {n : Nat} (h : l.Pairwise (· < ·)) (hb : ∀ z ∈ l, 0 ≤ z ∧ z < (n : Int)) : l.length ≤ n := by
  have key : ∀ (l : List Int) (a : Int), l.Pairwise (· < ·) → (∀ z ∈ l, a ≤ z ∧ z < (n : Int)) → (l.length : Int) ≤ max 0 ((n : Int) - a) := by
    intro l
    induction l with
    | nil => intro a _ _; simp; omega
    | cons x l ih =>
      intro a hp hz
      have h1 := hz x (by simp)
      rw [List.pairwise_cons] at hp
      have := ih (x + 1) hp.2 (fun z hz' => ⟨by have := hp.1 z hz'; omega, (hz z (by simp [hz'])).2⟩)
      simp only [List.length_cons]
      omega
  have := key l 0 h hb
  omega
theorem CR.write {n : Nat} {las : List (List UInt8)} {f : Int → Option (List UInt8)} {lt nt : Nat → ByteArray} {ls : List Int} (h : CR n las f lt nt ls) (hf : LooseOk n f) {i : Nat} (hi : i < n) (l : List UInt8) (hl : l.length = 64) :
    CR n las (upd f (i : Int) (some l)) lt (put1 nt i (txt l)) (withL ls (i : Int) true) := by
  rw [withL_put h.up]
  have hm : ∀ z, z ∈ putS ls (i : Int) ↔ upd f (i : Int) (some l) z ≠ none := fun z => by
    rw [mem_putS]
    unfold upd
    by_cases e : z = (i : Int)
    · rw [if_pos e]; simp [e]
    · rw [if_neg e, h.mem]; simp [e]
  refine ⟨h.hl, fun k hk => ?_, putS_up h.up _, hm, ?_⟩
  · unfold put1
    by_cases e : k = i
    · subst e
      rw [if_pos rfl]
      congr 1
      unfold secAt upd
      rw [if_pos rfl]
    · rw [if_neg e, h.hn k hk]
      congr 1
      unfold secAt upd
      rw [if_neg (by omega)]
  · refine up_len (putS_up h.up _) (fun z hz => ?_)
    have hu := hf.upd (i := (i : Int)) (by omega) hl
    have := (hm z).1 hz
    cases hz2 : upd f (i : Int) (some l) z with
    | none => exact absurd hz2 this
    | some y => exact ⟨(hu z y hz2).1, (hu z y hz2).2.1⟩
end Go.Proofs.Ytobgopiadfinbaa
