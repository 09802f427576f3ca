/-
  THE CONTRACTS of nums.Least and point.Low.
-/
import Derived.Test.YtpoagfldekppkaaDoorPtState
namespace Go.Proofs.YtpoagfldekppkaaDoor
open Go.RowKit
def leastL (a : Int) (l : List Int) : Int := l.foldl min a
theorem takeOne (l : List Int) (k : Nat) (h : k < l.length) : l.take (k + 1) = l.take k ++ [l.getD k 0] := by
  rw [List.take_succ_eq_append_getElem h, List.getD_eq_getElem?_getD, List.getElem?_eq_getElem h]; rfl
theorem iCell {w : World} {a : Option Addr} {l : List Int} (h : IntsAt w a l) {k : Nat} (hk : k < l.length) : ∃ b off, a = some ⟨b, off, none⟩ ∧ w.cell? ⟨b, off + k, none⟩ = some (.int .i64 (l.getD k 0)) := by
  rcases h with rfl | ⟨b, off, e, h⟩
  · simp at hk
  · exact ⟨b, off, e, h k hk⟩
theorem iBelow {w w' : World} {a : Option Addr} {l : List Int} (h : IntsAt w a l) (hb : Below w.heap.size w w') : IntsAt w' a l := by
  rcases h with rfl | ⟨b, off, e, h⟩
  · exact .inl rfl
  · exact .inr ⟨b, off, e, fun i hi => keep_h hb (h i hi)⟩
theorem retI64 {a b : Int} (h : a = b) : Ending.returned (.int .i64 a) = .returned (.int .i64 b) := by rw [h]
set_option maxHeartbeats 400000 in
theorem least_any (x : Int) (a : Option Addr) (l : List Int) (cap : Nat) (w : World) (hn : l.length ≤ maxLen) (ha : IntsAt w a l) :
    Calls Tryd.prog 19 #[.int .i64 x, .slice a l.length cap] w fun e w' => e = .returned (.int .i64 (leastL x l)) ∧ w = w' := by
  unfold maxLen at hn
  have HA := Lib.hid ha; clear ha
  go_enter Tryd.func19, Tryd.ntmps19
  go_wp2
  go_loop [5, 11] (fun m i => ∃ k : Nat, k ≤ l.length ∧ i = .int .i64 k ∧ m = .int .i64 (leastL x (l.take k))) (fun _ i => l.length - (intOf i).toNat)
  case atStart => exact ⟨0, Nat.zero_le _, rfl, rfl⟩
  case round =>
    obtain ⟨k, hk, rfl, rfl⟩ := hrel
    by_cases hlt : k < l.length
    · obtain ⟨b, off, rfl, hc⟩ := iCell HA.out hlt
      have hs : leastL x (l.take (k + 1)) = min (leastL x (l.take k)) (l.getD k 0) := by rw [takeOne l k hlt]; unfold leastL; rw [List.foldl_append]; rfl
      have HS := Lib.hid hs; clear hs
      obtain ⟨c, hcc⟩ : ∃ c, c = l.getD k 0 := ⟨_, rfl⟩
      obtain ⟨m, hm⟩ : ∃ m, m = leastL x (l.take k) := ⟨_, rfl⟩
      rw [← hcc] at HS hc
      rw [← hm] at HS ⊢
      clear hcc hm
      go_wp2
      go_round
      case rel => exact ⟨k + 1, by omega, by go_num, by rw [HS.out]⟩
      case measure => simp [intOf]; omega
    · go_wp2
      go_ret
      exact ⟨retI64 (by rw [List.take_of_length_le (by omega)]), rfl⟩

/-- The least of what counts. -/
def lowL (h : Int) (l : List Int) : Int := l.foldl (fun m o => if 0 ≤ o then min m o else m) (h + 1)
theorem lowL_snoc (h : Int) (l : List Int) (k : Nat) (hk : k < l.length) : lowL h (l.take (k + 1)) = if 0 ≤ l.getD k 0 then min (lowL h (l.take k)) (l.getD k 0) else lowL h (l.take k) := by
  rw [takeOne l k hk]; unfold lowL; rw [List.foldl_append]; rfl
theorem lowF_le (l : List Int) : ∀ a : Int, l.foldl (fun m o => if 0 ≤ o then min m o else m) a ≤ a := by
  induction l with
  | nil => intro a; exact Int.le_refl _
  | cons n l ih =>
    intro a
    rw [List.foldl_cons]
    refine Int.le_trans (ih _) ?_
    split <;> omega
theorem lowF_ge (l : List Int) : ∀ a : Int, 0 ≤ a → 0 ≤ l.foldl (fun m o => if 0 ≤ o then min m o else m) a := by
  induction l with
  | nil => intro a h; exact h
  | cons n l ih =>
    intro a h
    rw [List.foldl_cons]
    refine ih _ ?_
    split <;> omega
theorem lowF_all (l : List Int) : ∀ a x : Int, x ∈ l → 0 ≤ x → l.foldl (fun m o => if 0 ≤ o then min m o else m) a ≤ x := by
  induction l with
  | nil => intro a x h; simp at h
  | cons n l ih =>
    intro a x h hx
    rw [List.foldl_cons]
    rcases List.mem_cons.1 h with rfl | h
    · refine Int.le_trans (lowF_le l _) ?_
      rw [if_pos hx]; omega
    · exact ih _ x h hx
theorem lowF_is (l : List Int) : ∀ a : Int, l.foldl (fun m o => if 0 ≤ o then min m o else m) a = a ∨ l.foldl (fun m o => if 0 ≤ o then min m o else m) a ∈ l := by
  induction l with
  | nil => intro a; exact .inl rfl
  | cons n l ih =>
    intro a
    rw [List.foldl_cons]
    rcases ih (if 0 ≤ n then min a n else a) with h | h
    · rw [h]
      by_cases hn : 0 ≤ n
      · rw [if_pos hn]
        by_cases hm : a ≤ n
        · exact .inl (by omega)
        · exact .inr (by rw [show min a n = n by omega]; exact List.mem_cons_self)
      · rw [if_neg hn]; exact .inl rfl
    · exact .inr (List.mem_cons_of_mem _ h)
set_option maxRecDepth 100000 in
set_option maxHeartbeats 1000000 in
theorem low_any (x : Int) (hx : 0 ≤ x ∧ x ≤ 1152921504606846976) (a : Option Addr) (l : List Int) (cap : Nat) (w : World) (hn : l.length ≤ maxLen) (ha : IntsAt w a l) :
    Calls Tryd.prog 8 #[.int .i64 x, .slice a l.length cap] w fun e w' => e = .returned (.int .i64 (lowL x l)) ∧ Below w.heap.size w w' := by
  unfold maxLen at hn
  have HA := Lib.hid ha; clear ha
  have KL := Lib.hid (fun W b m o (h : IntsAt W (some ⟨b, 0, none⟩) [o]) => least_any m (some ⟨b, 0, none⟩) [o] 1 W (by simp [maxLen]) h)
  have hx1 : x < 9223372036854775807 := by omega
  have hx2 := hx.1
  have hx3 := hx.2
  have HB0 := Lib.hid (Below.refl w.heap.size w)
  clear hx
  go_enter Tryd.func8, Tryd.ntmps8
  go_wp2
  go_loopw [5, 15] (fun m i wr => ∃ k : Nat, k ≤ l.length ∧ i = .int .i64 k ∧ m = .int .i64 (lowL x (l.take k)) ∧ Hid (Below w.heap.size w wr)) (fun _ i _ => l.length - (intOf i).toNat)
  case atStart => exact ⟨0, Nat.zero_le _, rfl, rfl, HB0⟩
  case round =>
    obtain ⟨k, hk, rfl, rfl, HB⟩ := hrel
    rename World => wr
    by_cases hlt : k < l.length
    · obtain ⟨b, off, rfl, hc⟩ := iCell (iBelow HA.out HB.out) hlt
      have HS := Lib.hid (lowL_snoc x l k hlt)
      obtain ⟨c, hcc⟩ : ∃ c, c = l.getD k 0 := ⟨_, rfl⟩
      obtain ⟨m, hm⟩ : ∃ m, m = lowL x (l.take k) := ⟨_, rfl⟩
      rw [← hcc] at HS hc
      rw [← hm] at HS ⊢
      clear hcc hm
      by_cases h0 : 0 ≤ c
      · have hI : IntsAt (wr.alloc (.cells #[.int .i64 c] 3)) (some ⟨wr.heap.size, 0, none⟩) [c] := .inr ⟨wr.heap.size, 0, rfl, fun i hi => by
          match i, hi with
          | 0, _ => exact new_h rfl rfl⟩
        have K1 := Lib.hid (KL.out _ _ m c hI)
        have HB2 := Lib.hid (HB.out.alloc HB.out.size (.cells #[.int .i64 c] 3))
        clear hI
        go_wp2_with fail
        refine K1.out.mono ?_
        rintro y w2 ⟨rfl, rfl⟩
        go_wp2
        go_roundw
        case rel => exact ⟨k + 1, by omega, by go_num, by rw [HS.out, if_pos h0]; rfl, HB2⟩
        case measure => simp [intOf]; omega
      · go_wp2
        go_roundw
        case rel => exact ⟨k + 1, by omega, by go_num, by rw [HS.out, if_neg h0], HB⟩
        case measure => simp [intOf]; omega
    · go_wp2
      go_ret
      exact ⟨retI64 (by rw [List.take_of_length_le (by omega)]), HB.out⟩
end Go.Proofs.YtpoagfldekppkaaDoor
