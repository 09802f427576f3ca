/-
  THE CONTRACT OF quadrigalaw03.awake: the document's example.
-/
import Derived.Test.YtpfgdmjgeelobaaDoorFrMakeYes
namespace Go.Proofs.YtpfgdmjgeelobaaDoor
open Go.RowKit Crc

/-- The example's data. -/
def exD : ByteArray := ⟨#[97, 98]⟩
def exM : ByteArray := ⟨#[109, 111, 114, 101]⟩
theorem exRight : frRight 1 0 5 exD.size = true := by decide
theorem ex_make : makeStr 1 0 5 ((⟨#[97]⟩ : ByteArray) ++ ⟨(joined [⟨#[98]⟩]).toArray⟩) = frStr 1 0 5 exD := by
  have : ((⟨#[97]⟩ : ByteArray) ++ ⟨(joined [⟨#[98]⟩]).toArray⟩) = exD := by decide +kernel
  rw [this]
  unfold makeStr
  rw [if_pos exRight]
theorem ex_open : openVal (frStr 1 0 5 exD ++ exM) = .tuple #[.agg #[.int .i64 1, .int .i64 0, .int .i64 5, .string exD], .int .i64 27, .bool true] := by
  obtain ⟨h1, h2, h3, h4, h5, h6, h7⟩ := made_parts 1 0 5 exD exM exRight
  rw [openVal_yes h7, h1, h2, h3, h4, h5]
  rfl
theorem ex_head : ((frStr 1 0 5 exD).extract 0 5).toList = [2, 0, 0, 0, 1] := by
  rw [ByteArray.toList_eq, extract_list]
  unfold frStr sealStr
  rw [ByteArray.data_append, Array.toList_append, List.drop_zero, List.take_append_of_le_length (by rw [frBody_len]; omega)]
  decide +kernel

set_option maxHeartbeats 1000000 in
theorem awake_fr (w : World) (ht : Tab w) : Calls Tryd.prog 8 #[] w fun e w' => e = .returned (.bool true) ∧ Below w.heap.size w w' := by
  have HT := Lib.hid ht; clear ht
  have HM : Hid (∀ W, Below w.heap.size w W → Calls Tryd.prog 11 #[.agg #[.int .i64 1, .int .i64 0, .int .i64 5, .string ⟨#[97]⟩], .slice (some ⟨W.heap.size, 0, none⟩) 1 1] (W.alloc (.cells #[.string ⟨#[98]⟩] 9)) fun e w' => e = .returned (.string (frStr 1 0 5 exD)) ∧ Below w.heap.size w w') := fun W hW => by
    have hb : Below w.heap.size w (W.alloc (.cells #[.string ⟨#[98]⟩] 9)) := hW.alloc hW.size _
    have := make_any 1 0 5 ⟨#[97]⟩ (some ⟨W.heap.size, 0, none⟩) [⟨#[98]⟩] 1 (W.alloc (.cells #[.string ⟨#[98]⟩] 9)) (by decide) (by decide) (by decide) (by decide) (by decide) (by decide) (by decide) (by intro x hx; simp at hx; subst hx; decide) (one_str W _ _) (HT.out.below hb)
    rw [ex_make] at this
    exact this.mono fun e w' h => ⟨h.1, hb.trans (h.2.mono hb.size)⟩
  have hz := frStr_size 1 0 5 exD
  have hz2 : (frStr 1 0 5 exD).size = 27 := by rw [hz]; decide
  have HO := Lib.hid (fun W (hW : Below w.heap.size w W) => open_fr (frStr 1 0 5 exD ++ exM) W (by rw [ByteArray.size_append, hz2]; decide) (HT.out.below hW))
  rw [ex_open] at HO
  have hh := ex_head
  clear hz
  unfold exM at HO
  generalize frStr 1 0 5 exD = S at *
  unfold exD at HO
  go_enter Tryd.func8, Tryd.ntmps8
  go_wp2_with fail
  refine (HM.out _ (Below.refl _ _)).mono ?_
  rintro e w1 ⟨rfl, hb1⟩
  go_wp2_with fail
  refine (HO.out _ hb1).mono ?_
  rintro e w2 ⟨rfl, hb2⟩
  have hb2 := hb1.trans (hb2.mono hb1.size)
  go_wp2
  go_ret
  exact ⟨rfl, hb2.alloc hb2.size _⟩
end Go.Proofs.YtpfgdmjgeelobaaDoor
