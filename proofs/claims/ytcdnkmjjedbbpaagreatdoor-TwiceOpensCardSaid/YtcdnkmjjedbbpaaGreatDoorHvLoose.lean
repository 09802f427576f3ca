/-
  THE CONTRACT OF a device's Loose: its loose sectors, rising.
-/
import Derived.Test.YtcdnkmjjedbbpaaGreatDoorDvb
import Derived.Test.YtcdnkmjjedbbpaaGreatDoorLooseShelf
import Derived.Shelf.SlIterI.Nil
import Derived.Shelf.SortM.Plain
import Derived.Shelf.SortM.SortNone
namespace Go.Proofs.YtcdnkmjjedbbpaaGreatDoor.Dv
open Go.RowKit Go.Maps Go.Sort Go.Shelf
/-- slices.Sort's two contracts at this translation, at the fence that asks nothing. -/
theorem sortsA (m : Nat) : AnyZI.SortsIn Tryz.prog Tryz.sortedA_ren Fence.wide m :=
  ⟨fun blk off cap ss W hH hblk hsz => callsIn_wide.2 (AnyM.slices_Sort_int Tryz.sortA blk off cap ss W hH hblk hsz),
   fun p cap W => callsIn_wide.2 (AnyM.slices_Sort_int_none Tryz.sortA p cap W)⟩
set_option maxHeartbeats 1000000 in
/-- Loose, of any map that is there: a new slice that holds its keys, sorted; nil just where it has none. -/
theorem loose_map {W : World} {D P L M n k : Nat} {off : Bool} {uses : Int} {armed : Bool} {left : Int} {las : List (List UInt8)} {f : Int → Option (List UInt8)} (h : DevAt W D P L M n k off uses armed left las f)
    (D0 : DataW Unit) (hown : W.ownsMap Tryz.prog 3 (secR (H := Unit)) M k D0) (hsz : Maps.size D0 ≤ 10000) :
    Calls Tryz.prog 14 #[.pointer (some ⟨D, 0, none⟩)] W fun e w' => ∃ (v : Value) (ss : List Int), e = .returned v ∧ ss.Perm (intKeys D0) ∧
      w'.ownsRow W.heap.size 3 1 v ss.length ((ss.mergeSort (fun x y => decide (x ≤ y))).map encZ) ∧ (v = .slice none 0 0 ↔ ss = []) ∧ Below W.heap.size W w' := by
  have hd := h.d2
  clear h
  refine (callsIn_wide (n := 6)).1 ?_
  have hbl := hown.lt
  have hseq : SeqGives Fence.wide 2 Tryz.prog 54 #[.pointer (some ⟨W.heap.size, 0, none⟩)] encZ (fun ss => ss.Perm (intKeys D0)) (Maps.size D0) (W.alloc (.cells #[.map (some M)] 67)) :=
    AnyZI.keys_gives (ρ := Tryz.keysA_ren) { Tryz.keysA with } Fence.wide _ trivial rfl (by omega) W.heap.size M k D0 _ (by simp) (by simp) (by
      obtain ⟨es, clock, hb, Ft, hs, hD⟩ := hown
      exact ⟨es, clock, (Below.heap_alloc _ _ M hbl).trans hb, Ft, hs, hD⟩)
  have cK : ∀ mb W, CallsIn Fence.wide 5 Tryz.prog 34 #[.map mb] W fun e w' => e = .returned (.func (.func 54) #[] #[.pointer (some ⟨W.heap.size, 0, none⟩)]) ∧ w' = W.alloc (.cells #[.map mb] 67) := fun mb W => AnyZI.keys_in Tryz.keysA Fence.wide 5 trivial rfl mb W
  have cS := AnyZI.sorted_in Tryz.sortedA Fence.wide 5 trivial trivial trivial trivial rfl (by omega) (sortsA _) (enters_of Tryz.func53 (by kernel_rfl) rfl) 54 #[.pointer (some ⟨W.heap.size, 0, none⟩)] trivial (enters_of Tryz.func54 (by kernel_rfl) rfl) _ _ (by unfold maxLen; omega) (by omega) _ hseq
  change CallsIn _ _ Tryz.prog 33 _ _ _ at cS
  have hfK : Fence.wide.fn 34 := trivial
  have hfS : Fence.wide.fn 33 := trivial
  refine callsIn_of_wp Tryz.func14 rfl trivial ?_ rfl
  simp only [Tryz.ntmps14, List.size_toArray, List.length_cons, List.length_nil, Nat.reduceAdd, Nat.reduceSub, Array.replicate_succ, Array.replicate_zero, List.push_toArray, List.append_toArray, List.nil_append, List.cons_append]
  gi_wp2_with (first
    | (gi_at_call 34; refine (cK _ _).mono ?_; rintro e w' ⟨rfl, rfl⟩)
    | (gi_at_call 33; refine cS.mono ?_; rintro e w' ⟨v, ss, rfl, hS, hrow, hnil, hb⟩))
  go_ret
  exact ⟨v, ss, rfl, hS, ownsRow_base_a hrow (by simp), hnil, ((Below.refl _ W).alloc (Nat.le_refl _) _).trans (hb.mono (by simp))⟩
theorem no_keys {W : World} {M k : Nat} {D0 : DataW Unit} (hown : W.ownsMap Tryz.prog 3 (secR (H := Unit)) M k D0) (hm : MapIs D0 (fun _ => none)) : D0 = .map [] := by
  obtain ⟨es, rfl, hko⟩ := hown.keysOf
  cases es with
  | nil => rfl
  | cons p es =>
    obtain ⟨x, hx⟩ := hko p (List.mem_cons_self ..)
    obtain ⟨y, _, hy, _⟩ := Maps.keyOf_i64 Tryz.underlying3 hx
    have h1 := hm.1 y
    rw [has_eq, List.any_cons, hy] at h1
    simp [Lit.sameKey] at h1
theorem loose_none {W : World} {D P L M n k : Nat} {off : Bool} {uses : Int} {armed : Bool} {left : Int} {las : List (List UInt8)} (h : DevAt W D P L M n k off uses armed left las (fun _ => none)) :
    Calls Tryz.prog 14 #[.pointer (some ⟨D, 0, none⟩)] W fun e w' => e = .returned (.slice none 0 0) ∧ Below W.heap.size W w' := by
  obtain ⟨D0, hown, hm⟩ := h.mp
  obtain rfl := no_keys hown hm
  refine (loose_map h _ hown (by rw [size_eq]; simp)).mono ?_
  rintro e w' ⟨v, ss, rfl, hp, _, hn, hb⟩
  have : ss = [] := hp.eq_nil
  rw [hn.2 this]
  exact ⟨rfl, hb⟩
end Go.Proofs.YtcdnkmjjedbbpaaGreatDoor.Dv
