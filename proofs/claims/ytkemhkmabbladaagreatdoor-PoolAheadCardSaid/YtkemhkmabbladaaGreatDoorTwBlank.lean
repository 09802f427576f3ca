/-
  THE CONTRACT OF twice's blank: whether all bytes are 00.
-/
import Derived.Test.YtkemhkmabbladaaGreatDoorTwNote
import Derived.Test.YtkemhkmabbladaaGreatDoorTwPure
namespace Go.Proofs.YtkemhkmabbladaaGreatDoor
open Go.RowKit
theorem tw_drop_nil {p : UInt8 → Bool} : ∀ {l : List UInt8}, l.dropWhile p = [] → ∀ x ∈ l, p x = true
  | [], _ => fun x hx => by cases hx
  | y :: l, h => by
    rw [List.dropWhile_cons] at h
    split at h
    · rename_i hy
      intro x hx
      rcases List.mem_cons.1 hx with rfl | hx
      · exact hy
      · exact tw_drop_nil h x hx
    · cases h
theorem tw_nil_drop {p : UInt8 → Bool} : ∀ {l : List UInt8}, (∀ x ∈ l, p x = true) → l.dropWhile p = []
  | [], _ => rfl
  | y :: l, h => by
    rw [List.dropWhile_cons, h y List.mem_cons_self, if_pos rfl]
    exact tw_nil_drop fun x hx => h x (List.mem_cons_of_mem _ hx)
theorem tw_trim_yes (n : Nat) : Lib.trimB (List.replicate n 0) 0 = [] := by
  unfold Lib.trimB Lib.trimLeftB Lib.trimRightB
  have h : ∀ k : Nat, (List.replicate k (0 : UInt8)).dropWhile (· == 0) = [] := fun k => by
    refine tw_nil_drop fun x hx => ?_
    rw [List.eq_of_mem_replicate hx]; rfl
  rw [List.reverse_replicate, h]; rfl
theorem tw_all_zero {l : List UInt8} (h : ∀ x ∈ l, (x == 0) = true) : l = List.replicate l.length 0 := by
  rw [List.eq_replicate_iff]
  exact ⟨rfl, fun x hx => by have := h x hx; simpa using this⟩
theorem tw_trim_no {l : List UInt8} (h : Lib.trimB l 0 = []) : l = List.replicate l.length 0 := by
  unfold Lib.trimB Lib.trimLeftB Lib.trimRightB at h
  have h := tw_drop_nil h
  have h1 : l.reverse.dropWhile (· == 0) = [] := by
    cases hd : l.reverse.dropWhile (· == 0) with
    | nil => rfl
    | cons x r =>
      have hx := h x (by rw [hd]; simp)
      have h3 := List.head?_dropWhile_not (fun a : UInt8 => a == 0) l.reverse
      rw [hd] at h3
      simp at h3
      simp at hx
      exact absurd hx h3
  have h1 := tw_drop_nil h1
  exact tw_all_zero fun x hx => h1 x (List.mem_reverse.2 hx)
/-- Nothing but 00. -/
def allZ (s : ByteArray) : Bool := (Lib.trimB s.data.toList 0).isEmpty
theorem allZ_yes (n : Nat) : allZ (bstr (List.replicate n 0)) = true := by
  unfold allZ
  rw [bstr_data, tw_trim_yes]; rfl
theorem allZ_no {s : ByteArray} (h : allZ s = true) : s = bstr (List.replicate s.size 0) := by
  unfold allZ at h
  have := tw_trim_no (List.isEmpty_iff.1 h)
  apply bs_ext
  rw [bstr_data, this, Array.length_toList]; rfl
theorem blank_any (s : ByteArray) (hs : s.size ≤ 100000) (w : World) : Calls Tryz.prog 38 #[.string s] w fun e w' => e = .returned (.bool (allZ s)) ∧ Below w.heap.size w w' := by
  have KT := Lib.hid (fun W => Tryz.strings_Trim_one s 0 (by decide) W (by omega))
  have hz : (⟨(Lib.trimB s.data.toList 0).toArray⟩ : ByteArray).toList.isEmpty = allZ s := by rw [ByteArray.toList_eq]; rfl
  generalize (⟨(Lib.trimB s.data.toList 0).toArray⟩ : ByteArray) = tt at *
  go_enter Tryz.func38, Tryz.ntmps38
  go_wp2_with fail
  refine (KT.out _).mono ?_
  rintro e w2 ⟨rfl, hw2⟩
  have hb2 : Below w.heap.size w w2 := by
    rcases hw2 with rfl | rfl
    · exact Below.refl _ _
    · exact (Below.refl _ _).drew
  clear hw2 KT
  go_wp2
  go_ret
  exact ⟨rfl, hb2⟩
end Go.Proofs.YtkemhkmabbladaaGreatDoor
