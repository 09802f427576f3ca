/-
  PageBytes: what stays there in the law's loop; contracts in one form.
-/
import Derived.Test.YtgkpbchpjgkblaaDoorPgTexts
import Derived.Test.YtgkpbchpjgkblaaDoorPgRefRead
import Derived.Test.YtgkpbchpjgkblaaDoorPgRightsLaw
namespace Go.Proofs.YtgkpbchpjgkblaaDoor
open Go.RowKit
/-- What is laid of any page. -/
def pgW (no g : Int) (l : List (ByteArray × ByteArray)) : ByteArray := if pgOk no g l = true then pgBytes no g l else ⟨#[]⟩
theorem pgLaid_all (no g : Int) (a : Option Addr) (l : List (ByteArray × ByteArray)) (c : Nat) (w : World) (hn : l.length ≤ maxLen) (ha : ClsAt w a l) (ht : Tab w) :
    Calls Tryd.prog 20 #[.agg #[.int .i64 no, .int .i64 g, .slice a l.length c]] w fun e w' => e = .returned (.string (pgW no g l)) ∧ Below w.heap.size w w' := by
  unfold pgW
  cases h : pgOk no g l with
  | true => rw [if_pos rfl]; exact pgLaid_any no g a l c w ha ht h
  | false => rw [if_neg (by decide)]; exact pgLaid_bad no g a l c w hn ha h
/-- What is read, in one form. -/
def rdN (s : ByteArray) : Int := match readOf s with
  | none => 0
  | some q => q.1
def rdG (s : ByteArray) : Int := match readOf s with
  | none => 0
  | some q => q.2.1
def rdL (s : ByteArray) : List (ByteArray × ByteArray) := match readOf s with
  | none => []
  | some q => q.2.2
def rdB (s : ByteArray) : Bool := match readOf s with
  | none => false
  | some _ => true
def RdOne (s : ByteArray) (w : World) (e : Ending) (w' : World) : Prop := ∃ a c, e = .returned (.tuple #[.agg #[.int .i64 (rdN s), .int .i64 (rdG s), .slice a (rdL s).length c], .bool (rdB s)]) ∧ ClsAt w' a (rdL s) ∧ Below w.heap.size w w'
theorem tk_one {s : ByteArray} {w : World} {e : Ending} {w' : World} (h : TkPg w (readOf s) e w') : RdOne s w e w' := by
  unfold RdOne rdN rdG rdL rdB
  unfold TkPg at h
  cases hr : readOf s with
  | none => rw [hr] at h; exact ⟨none, 0, h.1, .inl rfl, h.2⟩
  | some q =>
    rw [hr] at h
    obtain ⟨a, c, he, hrow, hb⟩ := h
    exact ⟨a, c, he, hrow.clsAt, hb⟩
theorem rdL_len (s : ByteArray) : (rdL s).length ≤ 8 := by
  unfold rdL
  cases hr : readOf s with
  | none => simp
  | some q => exact (rd_head (no := q.1) (g := q.2.1) (l := q.2.2) hr).2.2.2.2.1
/-- What stays there from the loop on. -/
structure LwB (W : World) (A B X Y : Nat) (n1 g1 : Int) (a1 : Option Addr) (l1 : List (ByteArray × ByteArray)) (c1 : Nat) (n2 g2 : Int) (a2 : Option Addr) (l2 : List (ByteArray × ByteArray)) (c2 : Nat) (n3 g3 : Int) (a3 : Option Addr) (c3 : Nat) (a4 : Option Addr) (c4 : Nat) (l3 : List (ByteArray × ByteArray)) : Prop where
  p0 : W.cell? ⟨A, 0, none⟩ = some (.int .i64 n1)
  p1 : W.cell? ⟨A, 1, none⟩ = some (.int .i64 g1)
  p2 : W.cell? ⟨A, 2, none⟩ = some (.slice a1 l1.length c1)
  q0 : W.cell? ⟨B, 0, none⟩ = some (.int .i64 n2)
  q1 : W.cell? ⟨B, 1, none⟩ = some (.int .i64 g2)
  q2 : W.cell? ⟨B, 2, none⟩ = some (.slice a2 l2.length c2)
  x0 : W.cell? ⟨X, 0, none⟩ = some (.int .i64 n3)
  x1 : W.cell? ⟨X, 1, none⟩ = some (.int .i64 g3)
  x2 : W.cell? ⟨X, 2, none⟩ = some (.slice a3 l3.length c3)
  y0 : W.cell? ⟨Y, 0, none⟩ = some (.int .i64 n3)
  y1 : W.cell? ⟨Y, 1, none⟩ = some (.int .i64 g3)
  y2 : W.cell? ⟨Y, 2, none⟩ = some (.slice a4 l3.length c4)
  cl1 : ClsAt W a1 l1
  cl2 : ClsAt W a2 l2
  cl3 : ClsAt W a3 l3
  cl4 : ClsAt W a4 l3
  tab : Tab W
theorem LwB.below {W Z : World} {A B X Y : Nat} {n1 g1 : Int} {a1 : Option Addr} {l1 : List (ByteArray × ByteArray)} {c1 : Nat} {n2 g2 : Int} {a2 : Option Addr} {l2 : List (ByteArray × ByteArray)} {c2 : Nat} {n3 g3 : Int} {a3 : Option Addr} {c3 : Nat} {a4 : Option Addr} {c4 : Nat} {l3 : List (ByteArray × ByteArray)} (h : LwB W A B X Y n1 g1 a1 l1 c1 n2 g2 a2 l2 c2 n3 g3 a3 c3 a4 c4 l3) (hb : Below W.heap.size W Z) : LwB Z A B X Y n1 g1 a1 l1 c1 n2 g2 a2 l2 c2 n3 g3 a3 c3 a4 c4 l3 :=
  ⟨keep_cell hb h.p0, keep_cell hb h.p1, keep_cell hb h.p2, keep_cell hb h.q0, keep_cell hb h.q1, keep_cell hb h.q2, keep_cell hb h.x0, keep_cell hb h.x1, keep_cell hb h.x2, keep_cell hb h.y0, keep_cell hb h.y1, keep_cell hb h.y2, h.cl1.below hb, h.cl2.below hb, h.cl3.below hb, h.cl4.below hb, h.tab.below hb⟩
/-- A row of texts: its slice, and what its cells hold. -/
theorem rowS_shape {W : World} {B : Nat} {v : Value} {ts : List ByteArray} (h : RowS W B v ts) : ∃ a c, v = .slice a ts.length c ∧ KeysAt W a ts ∧ (0 < ts.length → ∃ g, a = some ⟨g, 0, none⟩ ∧ ∀ i, W.frozen? ⟨g, i, none⟩ = false) := by
  rcases Nat.eq_zero_or_pos ts.length with h0 | h0
  · have : ts = [] := List.length_eq_zero_iff.1 h0
    subst this
    rcases h.2 with ⟨hv, _⟩ | ⟨g, cap, cur, hv, _⟩
    · exact ⟨none, 0, hv, .inl rfl, fun hh => by simp at hh⟩
    · exact ⟨_, cap, hv, .inl rfl, fun hh => by simp at hh⟩
  · obtain ⟨g, cap, hv, _, hc⟩ := h.cells h0
    subst hv
    exact ⟨_, cap, rfl, .inr ⟨g, 0, rfl, fun i hi => by rw [Nat.zero_add]; exact hc i hi⟩, fun _ => ⟨g, rfl, fun i => World.ownsRow.frozenAt h i⟩⟩
theorem bl_lt (x y : ByteArray) : Op.bytesLess x.toList y.toList = decide (x.data.toList < y.data.toList) := by
  rw [bl_eq, ByteArray.toList_eq, ByteArray.toList_eq]
/-- Where a text stands, or would stand, in a row that rises. -/
structure AtIs (L : List ByteArray) (key : ByteArray) (m : Nat) : Prop where
  le : m ≤ L.length
  lo : ∀ j, j < m → (L.getD j ByteArray.empty).data.toList < key.data.toList
  hi : m < L.length → ¬ (L.getD m ByteArray.empty).data.toList < key.data.toList
theorem ba_data {a b : ByteArray} : a.data.toList = b.data.toList ↔ a = b := ⟨fun h => bs_ext h, fun h => by rw [h]⟩
theorem atIs_put {l : List (List UInt8)} {key : ByteArray} {m : Nat} (h : AtIs (ofB l) key m) : ofB (inK key.data.toList l) = if m < (ofB l).length ∧ (ofB l).getD m ByteArray.empty = key then ofB l else (ofB l).take m ++ key :: (ofB l).drop m := by
  have hle := h.le
  rw [ofB_len] at hle
  have hg : ∀ j, j < l.length → ((ofB l).getD j ByteArray.empty).data.toList = l.getD j [] := fun j hj => by rw [ofB_get l j hj]
  rw [inK_at hle (fun j hj => by have := h.lo j hj; rwa [hg j (by omega)] at this) (fun hm => by have := h.hi (by rw [ofB_len]; exact hm); rwa [hg m hm] at this)]
  by_cases e : m < l.length ∧ l.getD m [] = key.data.toList
  · rw [if_pos e, if_pos ⟨by rw [ofB_len]; exact e.1, by rw [← ba_data, hg m e.1]; exact e.2⟩]
  · rw [if_neg e, if_neg (fun q => e ⟨by have := q.1; rwa [ofB_len] at this, by have := q.2; rw [← ba_data, hg m (by have := q.1; rwa [ofB_len] at this)] at this; exact this⟩)]
    unfold ofB
    simp only [List.map_append, List.map_take, List.map_cons, List.map_drop]
theorem keysAt_below {W X : World} {a : Option Addr} {ks : List ByteArray} (h : KeysAt W a ks) (hb : Below W.heap.size W X) : KeysAt X a ks := by
  rcases h with rfl | ⟨b, off, e, h⟩
  · exact .inl rfl
  · exact .inr ⟨b, off, e, fun i hi => keep_cell hb (h i hi)⟩
theorem rowS_put {W : World} {B g cap n : Nat} {ts : List ByteArray} (h : RowS W B (.slice (some ⟨g, 0, none⟩) n cap) ts) (hn : ts.length = n) (j : Nat) (t : ByteArray) :
    RowS (W.setCell ⟨g, j, none⟩ (.string t)) B (.slice (some ⟨g, 0, none⟩) n cap) (ts.set j t) ∧ W.grownBy (W.setCell ⟨g, j, none⟩ (.string t)) (some g) := by
  subst hn
  have := rowS_set h j t
  rw [List.length_set] at this
  exact this
theorem rowS_at {W : World} {B g cap n : Nat} {ts : List ByteArray} (h : RowS W B (.slice (some ⟨g, 0, none⟩) n cap) ts) (hn : ts.length = n) (j : Nat) (hj : j < n) : W.cell? ⟨g, j, none⟩ = some (.string (ts.getD j ByteArray.empty)) ∧ ∀ i, W.frozen? ⟨g, i, none⟩ = false := by
  subst hn
  refine ⟨?_, fun i => World.ownsRow.frozenAt h i⟩
  rw [World.ownsRow.cellAt h j (by omega), List.getElem?_map, List.getD_eq_getElem?_getD, List.getElem?_eq_getElem hj]; rfl
theorem rowS_lt {W : World} {B g cap n : Nat} {ts : List ByteArray} (h : RowS W B (.slice (some ⟨g, 0, none⟩) n cap) ts) : B ≤ g := (World.ownsRow.lt h g rfl).1
end Go.Proofs.YtgkpbchpjgkblaaDoor
