/-
  THE CONTRACT OF nums.Most, AND TIMES: a map of numbers by numbers, as a function; those that lack are 0.
-/
import Derived.Test.YtcdkloohdafbpaaChecked
import Derived.WalkKit
import Derived.WalkLawsBesides
import Derived.Lib.Hide
import Derived.OpenShut
import Derived.Maps.OwnSet
import Derived.Maps.Views
import Derived.Carry
namespace Go.Proofs.Ytcdkloohdafbpaa
open Go.RowKit Go.Maps Go.ChangeMaps Go.MapKept Go.WideElems

/-- A slice of ints that reads as these numbers. -/
def IntsAt (w : World) (a : Option Addr) (l : List Int) : Prop :=
  l = [] ∨ ∃ b off, a = some ⟨b, off, none⟩ ∧ ∀ i, i < l.length → w.cell? ⟨b, off + i, none⟩ = some (.int .i64 (l.getD i 0))
def Ints64 (l : List Int) : Prop := ∀ n ∈ l, (Lit.int .i64 n).wf = true
theorem cell_lt {w : World} {b off : Nat} {v : Value} (h : w.cell? ⟨b, off, none⟩ = some v) : b < w.heap.size := by
  rcases Nat.lt_or_ge b w.heap.size with h1 | h1
  · exact h1
  · simp [World.cell?, Array.getElem?_eq_none h1] at h
theorem IntsAt.below {w w' : World} {a : Option Addr} {l : List Int} (h : IntsAt w a l) (hb : Below w.heap.size w w') : IntsAt w' a l := by
  rcases h with h | ⟨b, off, e, h⟩
  · exact .inl h
  · refine .inr ⟨b, off, e, fun i hi => ?_⟩
    have h0 := cell_lt (h i hi)
    rw [hb.cell (p := ⟨b, off + i, none⟩) h0]; exact h i hi
theorem IntsAt.cell {w : World} {a : Option Addr} {l : List Int} (h : IntsAt w a l) {k : Nat} (hk : k < l.length) : ∃ b off, a = some ⟨b, off, none⟩ ∧ w.cell? ⟨b, off + k, none⟩ = some (.int .i64 (l.getD k 0)) := by
  rcases h with rfl | ⟨b, off, e, h⟩
  · simp at hk
  · exact ⟨b, off, e, h k hk⟩
theorem take_one (l : List Int) (k : Nat) (h : k < l.length) : l.take (k + 1) = l.take k ++ [l.getD k 0] := by
  rw [List.take_succ_eq_append_getElem h]; simp [List.getD_eq_getElem?_getD, h]
theorem ret_i64 {a b : Int} (h : a = b) : Ending.returned (.int .i64 a) = .returned (.int .i64 b) := by rw [h]
theorem ret_bool {a b : Bool} (h : a = b) : Ending.returned (.bool a) = .returned (.bool b) := by rw [h]
theorem one_int (w : World) (x : Int) (T : TypeId) : IntsAt (w.alloc (.cells #[.int .i64 x] T)) (some ⟨w.heap.size, 0, none⟩) [x] :=
  .inr ⟨w.heap.size, 0, rfl, fun i hi => by
    match i, hi with
    | 0, _ => simp [World.cell?_alloc_at]⟩
theorem two_ints (w : World) (x y : Int) (T : TypeId) : IntsAt (w.alloc (.cells #[.int .i64 x, .int .i64 y] T)) (some ⟨w.heap.size, 0, none⟩) [x, y] :=
  .inr ⟨w.heap.size, 0, rfl, fun i hi => by
    match i, hi with
    | 0, _ => simp [World.cell?_alloc_at]
    | 1, _ => simp [World.cell?_alloc_at]⟩
def mostL (a : Int) (l : List Int) : Int := l.foldl max a

set_option maxHeartbeats 400000 in
theorem most_any (x : Int) (a : Option Addr) (l : List Int) (cap : Nat) (w : World) (hn : l.length ≤ maxLen) (ha : IntsAt w a l) :
    Calls Try.prog 28 #[.int .i64 x, .slice a l.length cap] w fun e w' => e = .returned (.int .i64 (mostL x l)) ∧ w = w' := by
  unfold maxLen at hn
  have HA := Lib.hid ha; clear ha
  go_enter Try.func28, Try.ntmps28
  go_wp2
  go_loop [5, 11] (fun m i => ∃ k : Nat, k ≤ l.length ∧ i = .int .i64 k ∧ m = .int .i64 (mostL x (l.take k))) (fun _ i => l.length - (intOf i).toNat)
  case atStart => exact ⟨0, Nat.zero_le _, rfl, rfl⟩
  case round =>
    obtain ⟨k, hk, rfl, rfl⟩ := hrel
    by_cases hlt : k < l.length
    · obtain ⟨b, off, rfl, hc⟩ := HA.out.cell hlt
      have hs : mostL x (l.take (k + 1)) = max (mostL x (l.take k)) (l.getD k 0) := by rw [take_one l k hlt]; unfold mostL; rw [List.foldl_append]; rfl
      have HS := Lib.hid hs; clear hs
      obtain ⟨c, hcc⟩ : ∃ c, c = l.getD k 0 := ⟨_, rfl⟩
      obtain ⟨m, hm⟩ : ∃ m, m = mostL x (l.take k) := ⟨_, rfl⟩
      rw [← hcc] at HS hc
      rw [← hm] at HS ⊢
      clear hcc hm
      go_wp2
      go_round
      case rel => exact ⟨k + 1, by omega, by go_num, by rw [HS.out]; congr 1; omega⟩
      case measure => simp [intOf]; omega
    · go_wp2
      go_ret
      exact ⟨ret_i64 (by rw [List.take_of_length_le (by omega)]), rfl⟩
/-- nums.Most(x, y), and of three. -/
theorem most1 (x y : Int) (T : TypeId) (W : World) : Calls Try.prog 28 #[.int .i64 x, .slice (some ⟨W.heap.size, 0, none⟩) 1 1] (W.alloc (.cells #[.int .i64 y] T)) fun e w' => e = .returned (.int .i64 (max x y)) ∧ W.alloc (.cells #[.int .i64 y] T) = w' :=
  most_any x (some ⟨W.heap.size, 0, none⟩) [y] 1 _ (by simp [maxLen]) (one_int W y T)
theorem most2 (x y z : Int) (T : TypeId) (W : World) : Calls Try.prog 28 #[.int .i64 x, .slice (some ⟨W.heap.size, 0, none⟩) 2 2] (W.alloc (.cells #[.int .i64 y, .int .i64 z] T)) fun e w' => e = .returned (.int .i64 (max (max x y) z)) ∧ W.alloc (.cells #[.int .i64 y, .int .i64 z] T) = w' :=
  most_any x (some ⟨W.heap.size, 0, none⟩) [y, z] 2 _ (by simp [maxLen]) (two_ints W y z T)

/-! ### times -/
theorem keyLaw : Keyed Try.prog 3 := int_keyed Try.underlying3
/-- Block M is times: those of f. -/
def TimesAt (W : World) (M n : Nat) (f : Int → Int) : Prop := ∃ D, W.ownsMap Try.prog 3 (plainElem (H := Unit) Try.prog 3) M n D ∧ ∀ i, D.atKey (.int .i64 i) (.lit (.int .i64 0)) = .lit (.int .i64 (f i))
theorem TimesAt.kept {W W' : World} {M n : Nat} {f : Int → Int} (h : TimesAt W M n f) {row : Option Nat} (hg : W.grownBy W' row) (hne : some M ≠ row) : TimesAt W' M n f := by
  obtain ⟨D, h1, h2⟩ := h
  exact ⟨D, h1.kept hg hne, h2⟩
theorem TimesAt.of_block {W W' : World} {M n : Nat} {f : Int → Int} (h : TimesAt W M n f) (hb : W'.heap[M]? = W.heap[M]?) : TimesAt W' M n f := by
  obtain ⟨D, ⟨es, clock, h1, F, hs, hD⟩, h2⟩ := h
  exact ⟨D, ⟨es, clock, hb.trans h1, F, hs, hD⟩, h2⟩
theorem TimesAt.lt {W : World} {M n : Nat} {f : Int → Int} (h : TimesAt W M n f) : M < W.heap.size := by
  obtain ⟨D, h1, _⟩ := h
  exact h1.lt
theorem TimesAt.mono {W : World} {M n n' : Nat} {f : Int → Int} (h : TimesAt W M n f) (hn : n ≤ n') : TimesAt W M n' f := by
  obtain ⟨D, h1, h2⟩ := h
  exact ⟨D, h1.mono hn, h2⟩
theorem atKey_empty (i : Int) : (DataW.map (H := Unit) []).atKey (.int .i64 i) (.lit (.int .i64 0)) = .lit (.int .i64 0) :=
  atKey_of_not_has (by simp [has_eq]) _
theorem TimesAt.made (W : World) : TimesAt (W.alloc (.map #[] 0)) W.heap.size 0 (fun _ => 0) :=
  ⟨.map [], World.ownsMap_made W _ _ _, fun i => atKey_empty i⟩
theorem zero_int (w : World) : (zeroValue 3).run Try.prog w = .ok (.int .i64 0) w := by
  have h : (Try.prog.info? 3).map (·.zero) = some (some (.int .i64 0)) := by kernel_rfl
  obtain ⟨i, hi, hz⟩ := Option.map_eq_some_iff.1 h
  simp [zeroValue, typeInfo, hi, hz]
/-- A look-up. -/
theorem TimesAt.look {W : World} {M n : Nat} {f : Int → Int} (h : TimesAt W M n f) (i : Int) (hi : (Lit.int .i64 i).wf = true) :
    (Instr.lookup 49 (.map (some M)) (.int .i64 i) false).run Try.prog W = .ok (.int .i64 (f i)) W := by
  obtain ⟨D, h1, h2⟩ := h
  obtain ⟨c, hrun, hat, _⟩ := h1.lookup_int keyLaw Try.underlying49 Try.underlying3 (zero_int W) (keyOf_int_mk Try.underlying3 hi)
  rw [h2 i] at hat
  have : f i = c := by simpa using hat
  rw [hrun, this]
def updI (f : Int → Int) (i z : Int) : Int → Int := fun k => if k = i then z else f k
/-- A store. -/
theorem TimesAt.store {W : World} {M n : Nat} {f : Int → Int} (h : TimesAt W M n f) (i : Int) (hi : (Lit.int .i64 i).wf = true) (z : Int) (hz : (Lit.int .i64 z).wf = true) (hn : n < maxLen) :
    ∃ W', (Instr.mapUpdate 49 (.map (some M)) (.int .i64 i) (.int .i64 z)).run Try.prog W = .ok () W' ∧ TimesAt W' M (n + 1) (updI f i z) ∧ W.grownBy W' (some M) := by
  obtain ⟨D, h1, h2⟩ := h
  have hk := keyOf_int_mk (P := Try.prog) Try.underlying3 hi
  obtain ⟨W', hrun, hown, hg⟩ := h1.update keyLaw Try.underlying49 hn hk (plainElem_int Try.underlying3 hz)
  refine ⟨W', hrun, ⟨_, hown, fun k => ?_⟩, hg⟩
  unfold updI
  by_cases e : k = i
  · subst e
    rw [atKey_put_same h1.isMap (show WideAt.IsKeyLit (.int .i64 k) from trivial), if_pos rfl]
  · rw [atKey_put_other (by intro x; injection x with _ x; exact e x), if_neg e]; exact h2 k
/-- delete. -/
theorem TimesAt.drop {W : World} {M n : Nat} {f : Int → Int} (h : TimesAt W M n f) (i : Int) (hi : (Lit.int .i64 i).wf = true) (ty : TypeId) :
    ∃ W', (Builtin.delete_ #[49, 3] ty #[.map (some M), .int .i64 i]).run Try.prog W = .ok (.tuple #[]) W' ∧ TimesAt W' M n (updI f i 0) ∧ W.grownBy W' (some M) := by
  obtain ⟨D, h1, h2⟩ := h
  have hk := keyOf_int_mk (P := Try.prog) Try.underlying3 hi
  obtain ⟨W', hrun, hown, hg⟩ := h1.drop keyLaw Try.underlying49 hk ty
  refine ⟨W', hrun, ⟨_, hown, fun k => ?_⟩, hg.grown⟩
  unfold updI
  by_cases e : k = i
  · subst e
    rw [atKey_del_same, if_pos rfl]
  · rw [atKey_del_other (by intro x; injection x with _ x; exact e x), if_neg e]; exact h2 k
end Go.Proofs.Ytcdkloohdafbpaa
