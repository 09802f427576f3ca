/-
  THE CONTRACT OF slices.Delete of the last record.
-/
import Derived.Test.YtophbefmlfieeaaTxNoteB
import Derived.Deep.RegionLaw
import Derived.Lib.SliceRun
namespace Go.Proofs.Ytophbefmlfieeaa
open Go.RowKit
theorem own_setCells {base e size g n cap : Nat} {xs : List Value} : ∀ (us : List Value) (o : Nat) (w : World), n * size ≤ o → w.ownsRow base e size (.slice (some ⟨g, 0, none⟩) n cap) n xs →
    (w.setCells g o us).ownsRow base e size (.slice (some ⟨g, 0, none⟩) n cap) n xs ∧ w.grownBy (w.setCells g o us) (some g)
  | [], o, w, _, h => ⟨h, ⟨rfl, rfl, rfl, Nat.le_refl _, fun _ _ _ => rfl⟩⟩
  | u :: us, o, w, ho, h => by
    obtain ⟨h1, h2⟩ := h.stored o u
    rw [List.set_eq_of_length_le (by rw [h.1]; exact ho)] at h1
    obtain ⟨h3, h4⟩ := own_setCells us (o + 1) (w.setCell ⟨g, o, none⟩ u) (by omega) h1
    exact ⟨h3, ⟨h4.os.trans h2.os, h4.tape.trans h2.tape, h4.output.trans h2.output, Nat.le_trans h2.size h4.size, fun k hk hne => (h4.block k (Nat.lt_of_lt_of_le hk h2.size) hne).trans (h2.block k hk hne)⟩⟩
theorem own_less {w : World} {base e size g n m cap : Nat} {xs : List Value} (h : w.ownsRow base e size (.slice (some ⟨g, 0, none⟩) n cap) n xs) (hm : m ≤ n) :
    w.ownsRow base e size (.slice (some ⟨g, 0, none⟩) m cap) m (xs.take (m * size)) := by
  have hms : m * size ≤ n * size := Nat.mul_le_mul_right _ hm
  refine ⟨by rw [List.length_take, h.1, Nat.min_eq_left hms], ?_⟩
  rcases h.2 with ⟨h', _⟩ | ⟨g', cap', cur, h', hb, hg, hnc, hcm, hcs, htake⟩
  · simp at h'
  · simp only [Value.slice.injEq, Option.some.injEq, Addr.mk.injEq, and_true, true_and] at h'
    obtain ⟨rfl, rfl⟩ := h'
    refine .inr ⟨g, cap, cur, rfl, hb, hg, Nat.le_trans hm hnc, hcm, hcs, ?_⟩
    rw [← htake, List.take_take, Nat.min_eq_left hms]
theorem rec_less {w : World} {B g cap : Nat} {l l2 : List Rc} (h : RecR w B (.slice (some ⟨g, 0, none⟩) (l ++ l2).length cap) (l ++ l2)) : RecR w B (.slice (some ⟨g, 0, none⟩) l.length cap) l := by
  have := own_less h (m := l.length) (by rw [List.length_append]; omega)
  rw [rcsC_append, ← rcsC_len l, List.take_left] at this
  exact this
theorem plc_less {w : World} {B g cap : Nat} {l l2 : List Plc} (h : PlcR w B (.slice (some ⟨g, 0, none⟩) (l ++ l2).length cap) (l ++ l2)) : PlcR w B (.slice (some ⟨g, 0, none⟩) l.length cap) l := by
  have := own_less h (m := l.length) (by rw [List.length_append]; omega)
  rw [plcC_append, ← plcC_len l, List.take_left] at this
  exact this
theorem rec_frz {w : World} {B g n cap : Nat} {l : List Rc} (h : RecR w B (.slice (some ⟨g, 0, none⟩) n cap) l) (hn : n = l.length) (j : Nat) : w.frozen? ⟨g, j, none⟩ = false := by
  subst hn
  exact World.ownsRow.frozenAt h j
theorem zero_rc (w : World) : (zeroValue 38).run Try.prog w = .ok (.agg #[.int .i64 0, .int .i64 0, .int .i64 0, .int .i64 0, .int .i64 0, .string ⟨#[]⟩, .bool false, .string ⟨#[]⟩, .bool false, .string ⟨#[]⟩, .int .i64 0]) w := Try.zeroValue38 w
/-- clear of one record. -/
theorem clear_rc (w : World) (ty : TypeId) (b o c : Nat) (hc : ∀ j, j < 11 → (w.cell? ⟨b, o + j, none⟩).isSome = true) (hf : ∀ j, j < 11 → w.frozen? ⟨b, o + j, none⟩ = false) :
    (Builtin.clear_ #[29] ty #[.slice (some ⟨b, o, none⟩) 1 c]).run Try.prog w = .ok (.tuple #[]) (w.setCells b o noRc.cells) := by
  have hst := run_storeCells_cells (P := Try.prog) b o noRc.cells 0 w (by simpa [Rc.cells] using hc) (by simpa [Rc.cells] using hf) (rcC_one noRc)
  simp only [Nat.add_zero] at hst
  have hz : (Builtin.zeroCells (Value.agg #[.int .i64 0, .int .i64 0, .int .i64 0, .int .i64 0, .int .i64 0, .string ⟨#[]⟩, .bool false, .string ⟨#[]⟩, .bool false, .string ⟨#[]⟩, .int .i64 0]).cells 1).toList = noRc.cells := by kernel_rfl
  simp [Builtin.clear_, run_underlying Try.underlying29, hz, hst]
section
variable {W : World} {B g c : Nat}
set_option maxRecDepth 100000 in
set_option maxHeartbeats 4000000 in
theorem del_last {l : List Rc} {y : Rc} {i j : Nat} (h : RecR W B (.slice (some ⟨g, 0, none⟩) (l ++ [y]).length c) (l ++ [y])) (hlc : l.length + 1 ≤ c) (hi : i = l.length) (hj : j = l.length + 1) :
    Calls Try.prog 78 #[.slice (some ⟨g, 0, none⟩) j c, .int .i64 i, .int .i64 j] W fun x w' =>
      x = .returned (.slice (some ⟨g, 0, none⟩) i c) ∧ RecR w' B (.slice (some ⟨g, 0, none⟩) l.length c) l ∧ W.grownBy w' (some g) := by
  obtain ⟨i0, hi0, hzz⟩ := Option.map_eq_some_iff.1 infoRc
  simp only [Prod.mk.injEq] at hzz
  obtain ⟨hz0, hz1, hz2⟩ := hzz
  obtain ⟨A, hA⟩ : ∃ A : Addr, (if c = j then some (⟨g, 0, none⟩ : Addr) else some ⟨g, j * 11, none⟩) = some A := by
    by_cases e : c = j
    · exact ⟨_, if_pos e⟩
    · exact ⟨_, if_neg e⟩
  have hne : ¬ c = i := by omega
  have hji : j - i = 1 := by omega
  have hcl : ∀ ty, (Builtin.clear_ #[29] ty #[.slice (some ⟨g, i * 11, none⟩) 1 (c - i)]).run Try.prog W.drew = .ok (.tuple #[]) (W.drew.setCells g (i * 11) noRc.cells) := fun ty => clear_rc W.drew ty g (i * 11) (c - i) (fun j hj => by
      subst hi
      show (W.cell? _).isSome = true
      rw [World.ownsRow.cellAt h (l.length * 11 + j) (by rw [List.length_append]; simp; omega)]
      rw [List.getElem?_eq_getElem (by rw [rcsC_len, List.length_append]; simp; omega)]; rfl) (fun j _ => World.ownsRow.frozenAt h _)
  obtain ⟨h3, h4⟩ := own_setCells noRc.cells (i * 11) W.drew (by rw [hi]; exact Nat.le_refl _) (rec_less h)
  have H3 := Lib.hid h3
  have H4 : Hid (W.grownBy (W.drew.setCells g (i * 11) noRc.cells) (some g)) := ⟨h4.os, h4.tape, h4.output, h4.size, h4.block⟩
  have hic : i ≤ c := by omega
  have hjc : j ≤ c := by omega
  have hij : i < j := by omega
  clear h h3 h4 hlc hi hj
  go_enter Try.func78, Try.ntmps78
  go_upto_region 5 with fail
  go_region_law (refine step_append_room rfl (.tmp 22) (.tmp 25) 29 rfl 38 i0 11 Try.underlying29 hi0 hz1 g 0 i c (by simp [Act.eval, Act.put]) A 0 (c - j) [] (by simp [Act.eval, Act.put]) rfl (by simp) (by simp) (by omega) (by simp) ?_; simp only [World.setCells])
  all_goals
    go_wp2
    go_ret
    exact ⟨rfl, H3.out, H4.out⟩
end
end Go.Proofs.Ytophbefmlfieeaa
