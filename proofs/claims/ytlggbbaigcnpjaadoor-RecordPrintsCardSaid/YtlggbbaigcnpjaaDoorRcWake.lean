/-
  THE CONTRACT OF quadrigalaw04.awake: the document's example, a begin record's bytes and print.
-/
import Derived.Test.YtlggbbaigcnpjaaDoorRcEncYes
import Derived.Test.YtlggbbaigcnpjaaDoorJoin
namespace Go.Proofs.YtlggbbaigcnpjaaDoor
open Go.RowKit

def sBegin : ByteArray := ⟨#[98, 101, 103, 105, 110]⟩
/-- The table of names, as far as the example reads it. -/
def NameAt (w : World) : Prop := w.cell? ⟨0, 1, none⟩ = some (.string sBegin)
theorem NameAt.below {w w' : World} (h : NameAt w) (hb : Below w.heap.size w w') : NameAt w' := keep_cell hb h

theorem itoa_at (i : Nat) (c : UInt8) (hi : i < 100) (hd : Lib.decDigits i = [c]) (W : World) :
    Calls Tryd.prog 30 #[.int .i64 (i : Int)] W fun e w' => e = .returned (.string ⟨#[c]⟩) ∧ W = w' :=
  (Tryd.strconv_Itoa_small i hi W).mono fun e w' h => ⟨by rw [h.1, hd], h.2.symm⟩
theorem join_words (g : Nat) (W : World) (p q r s : ByteArray) (h0 : W.cell? ⟨g, 0, none⟩ = some (.string p)) (h1 : W.cell? ⟨g, 1, none⟩ = some (.string q)) (h2 : W.cell? ⟨g, 2, none⟩ = some (.string r)) (h3 : W.cell? ⟨g, 3, none⟩ = some (.string s))
    (hl : (Lib.join ([p, q, r, s].map (·.data.toList)) [32]).length ≤ 140737488355328) :
    Calls Tryd.prog 33 #[.slice (some ⟨g, 0, none⟩) 4 4, .string ⟨#[32]⟩] W fun e w' => e = .returned (.string ⟨(Lib.join ([p, q, r, s].map (·.data.toList)) [32]).toArray⟩) ∧ Below W.heap.size W w' :=
  Tryd.strings_Join g 0 4 [p, q, r, s] ⟨#[32]⟩ W (fun j x hj => by
    match j, hj with
    | 0, hj => simp at hj; subst hj; exact h0
    | 1, hj => simp at hj; subst hj; exact h1
    | 2, hj => simp at hj; subst hj; exact h2
    | 3, hj => simp at hj; subst hj; exact h3) (block_lt h0) (by simp) (by simp) hl
theorem example_words : (⟨(Lib.join ([sBegin, ⟨#[51]⟩, ⟨#[55]⟩, ⟨#[48]⟩].map (·.data.toList)) [32]).toArray⟩ : ByteArray) = ⟨#[98, 101, 103, 105, 110, 32, 51, 32, 55, 32, 48]⟩ := by decide +kernel
theorem example_bytes : encStr 1 3 0 0 ⟨#[]⟩ false ⟨#[]⟩ false ⟨#[]⟩ 0 = ⟨#[1, 0, 0, 0, 3, 0, 0, 0, 0, 0, 0, 0, 0]⟩ := by decide +kernel
theorem example_right : rcOk 1 7 3 0 0 ⟨#[]⟩ false ⟨#[]⟩ false ⟨#[]⟩ 0 = true := by decide +kernel

set_option maxHeartbeats 4000000 in
theorem print_begin (w : World) (hn : NameAt w) :
    Calls Tryd.prog 12 #[.agg #[.int .i64 1, .int .i64 7, .int .i64 3, .int .i64 0, .int .i64 0, .string ⟨#[]⟩, .bool false, .string ⟨#[]⟩, .bool false, .string ⟨#[]⟩, .int .i64 0]] w fun e w' => e = .returned (.string ⟨#[98, 101, 103, 105, 110, 32, 51, 32, 55, 32, 48]⟩) ∧ Below w.heap.size w w' := by
  have HR := Lib.hid (right_at 1 7 3 0 0 0 ⟨#[]⟩ ⟨#[]⟩ ⟨#[]⟩ false false)
  rw [example_right] at HR
  have HK := Lib.hid (fun W => changes_any 1 W)
  have HU := Lib.hid (fun W => undoSize_any 1 W)
  have I0 := Lib.hid (itoa_at 0 48 (by omega) (by decide +kernel))
  have I3 := Lib.hid (itoa_at 3 51 (by omega) (by decide +kernel))
  have I7 := Lib.hid (itoa_at 7 55 (by omega) (by decide +kernel))
  have HJ := Lib.hid (fun g W h0 h1 h2 h3 => join_words g W sBegin ⟨#[51]⟩ ⟨#[55]⟩ ⟨#[48]⟩ h0 h1 h2 h3 (by decide +kernel))
  rw [example_words] at HJ
  unfold NameAt at hn
  generalize sBegin = B at *
  go_enter Tryd.func12, Tryd.ntmps12
  go_wp2_with fail
  refine (HR.out _ _ ?_).mono ?_
  · exact rcIn_new _ _ _ _ _ _ _ _ _ _ _ _ _ _ (by rw [World.size_alloc])
  rintro x w1 ⟨rfl, hb1⟩
  have c0 : w1.cell? ⟨w.heap.size, 0, none⟩ = some (.int .i64 1) := keep_cell hb1 (keep_alloc (new_cell rfl rfl))
  have c1 : w1.cell? ⟨w.heap.size, 1, none⟩ = some (.int .i64 7) := keep_cell hb1 (keep_alloc (new_cell rfl rfl))
  have c2 : w1.cell? ⟨w.heap.size, 2, none⟩ = some (.int .i64 3) := keep_cell hb1 (keep_alloc (new_cell rfl rfl))
  have c3 : w1.cell? ⟨w.heap.size, 3, none⟩ = some (.int .i64 0) := keep_cell hb1 (keep_alloc (new_cell rfl rfl))
  have cn : w1.cell? ⟨0, 1, none⟩ = some (.string B) := keep_cell hb1 (keep_alloc (keep_alloc hn))
  have hbw : Below w.heap.size w w1 := bw_call hb1 (bw_alloc (bw_alloc (Below.refl _ _)))
  clear hb1 HR hn
  go_wp2_with fail
  go_region_held3 (fun w' => w'.cell? ⟨w.heap.size, 0, none⟩ = some (.int .i64 1) ∧ w'.cell? ⟨w.heap.size, 1, none⟩ = some (.int .i64 7) ∧ w'.cell? ⟨w.heap.size, 2, none⟩ = some (.int .i64 3) ∧ w'.cell? ⟨w.heap.size, 3, none⟩ = some (.int .i64 0) ∧ w'.cell? ⟨0, 1, none⟩ = some (.string B))
    ((refine ⟨?_, ?_, ?_, ?_, ?_⟩ <;> (repeat (first | with_reducible assumption | with_reducible refine keep_alloc ?_ | with_reducible refine keep_drew ?_ | with_reducible refine keep_cell (by assumption) ?_))))
    (first
      | (go_at_call_of 30 (Value.int .i64 3); refine (I3.out _).mono ?_; rintro x w9 ⟨rfl, rfl⟩)
      | (go_at_call_of 30 (Value.int .i64 7); refine (I7.out _).mono ?_; rintro x w9 ⟨rfl, rfl⟩)
      | (go_at_call_of 30 (Value.int .i64 0); refine (I0.out _).mono ?_; rintro x w9 ⟨rfl, rfl⟩))
  all_goals go_wp2_with fail
  all_goals refine (HK.out _).mono ?_
  all_goals rintro x w4 ⟨rfl, rfl⟩
  all_goals go_wp2_with fail
  all_goals refine (HU.out _).mono ?_
  all_goals rintro x w5 ⟨rfl, rfl⟩
  all_goals go_wp2_with fail
  all_goals refine (HJ.out _ _ ?_ ?_ ?_ ?_).mono ?_
  all_goals first | ((repeat (first | with_reducible assumption | (with_reducible refine new_cell ?_ ?_ <;> first | rfl | (simp; done)) | with_reducible refine keep_alloc ?_ | with_reducible refine keep_drew ?_ | with_reducible refine keep_cell (by assumption) ?_)); done) | skip
  all_goals rintro x w6 ⟨rfl, hb6⟩
  all_goals go_wp2
  all_goals go_ret
  all_goals exact ⟨rfl, by (repeat (first | with_reducible assumption | with_reducible exact Below.refl _ _ | with_reducible refine bw_alloc ?_ | with_reducible refine bw_drew ?_ | with_reducible refine bw_call (by assumption) ?_))⟩

set_option maxHeartbeats 4000000 in
theorem awake_rc (w : World) (hn : NameAt w) : Calls Tryd.prog 6 #[] w fun e w' => e = .returned (.bool true) ∧ Below w.heap.size w w' := by
  have HE := Lib.hid (fun W => encode_yes 1 7 3 0 0 0 ⟨#[]⟩ ⟨#[]⟩ ⟨#[]⟩ false false W example_right)
  rw [example_bytes] at HE
  have HP := Lib.hid (fun W (hW : Below w.heap.size w W) => print_begin W (hn.below hW))
  clear hn
  go_enter Tryd.func6, Tryd.ntmps6
  go_wp2_with fail
  refine (HE.out _).mono ?_
  rintro x w1 ⟨rfl, hb1⟩
  obtain ⟨c0, c1, c2, c3, c4, c5, c6, c7, c8, c9, c10⟩ := read11 (W := w) (b := w.heap.size) (T := 25) (v0 := .int .i64 1) (v1 := .int .i64 7) (v2 := .int .i64 3) (v3 := .int .i64 0) (v4 := .int .i64 0) (v5 := .string ⟨#[]⟩) (v6 := .bool false) (v7 := .string ⟨#[]⟩) (v8 := .bool false) (v9 := .string ⟨#[]⟩) (v10 := .int .i64 0) rfl
  replace c0 := keep_cell hb1 c0
  replace c1 := keep_cell hb1 c1
  replace c2 := keep_cell hb1 c2
  replace c3 := keep_cell hb1 c3
  replace c4 := keep_cell hb1 c4
  replace c5 := keep_cell hb1 c5
  replace c6 := keep_cell hb1 c6
  replace c7 := keep_cell hb1 c7
  replace c8 := keep_cell hb1 c8
  replace c9 := keep_cell hb1 c9
  replace c10 := keep_cell hb1 c10
  have hb2 : Below w.heap.size w w1 := bw_call hb1 (bw_alloc (Below.refl _ _))
  clear hb1 HE
  go_wp2_with fail
  refine (HP.out _ hb2).mono ?_
  rintro x w3 ⟨rfl, hb3⟩
  go_wp2
  go_ret
  exact ⟨rfl, bw_call hb3 hb2⟩
end Go.Proofs.YtlggbbaigcnpjaaDoor
