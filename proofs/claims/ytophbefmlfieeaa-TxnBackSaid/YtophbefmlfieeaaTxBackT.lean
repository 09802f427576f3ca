/-
  THE CONTRACTS OF place, of a table's Back; calls on no table.
-/
import Derived.Test.YtophbefmlfieeaaTxPlace
namespace Go.Proofs.Ytophbefmlfieeaa
open Go.RowKit
/-- The last place of a number. -/
def placeM (l : List Plc) (no : Int) : Option Plc := l.reverse.find? (fun p => decide (p.1 = no))
theorem bk_rev (l : List Plc) (j : Nat) (h : j < l.reverse.length) : (bk l j).2 = l.reverse[j] := by
  have h' : j < l.length := by simpa using h
  rw [List.getElem_reverse]
  unfold bk
  simp only
  rw [List.getD_eq_getElem?_getD, List.getElem?_eq_getElem (by omega)]
  rfl
theorem place_any {w : World} {B K : Nat} {d : KnD} (h : KnIs w B K d) (no : Int) (hl : d.pl.length ≤ 100000) :
    Calls Try.prog 31 #[.pointer (some ⟨K, 0, none⟩), .int .i64 no] w fun x w' =>
      (match placeM d.pl no with
        | none => x = .returned (.tuple #[.agg #[.int .i64 0, .int .i64 0], .bool false])
        | some p => x = .returned (.tuple #[.agg #[.int .i64 p.1, .int .i64 p.2], .bool true])) ∧ Below w.heap.size w w' := by
  obtain ⟨a, c, e⟩ := h.pr.slice
  have k6 := h.c6
  have hp := h.pr.plcs
  rw [e] at k6 hp
  refine ((place_in Fence.wide 3 trivial trivial trivial rfl (by omega) d.pl no hl k6 hp).calls (fun k => by simp [Fence.room, Fence.wide])).mono ?_
  rintro x w' ⟨h1, hb⟩
  refine ⟨?_, hb⟩
  rcases h1 with ⟨rfl, hn⟩ | ⟨k, hk, rfl, he, hn⟩
  · have : placeM d.pl no = none := by
      unfold placeM
      rw [List.find?_eq_none]
      intro p hp
      obtain ⟨j, hj, rfl⟩ := List.mem_iff_getElem.1 hp
      have := hn j (by simpa using hj)
      rw [bk_rev _ _ hj] at this
      simpa using this
    rw [this]
  · have hk' : k < d.pl.reverse.length := by simpa using hk
    have : placeM d.pl no = some (bk d.pl k).2 := by
      unfold placeM
      rw [List.find?_eq_some_iff_getElem]
      refine ⟨by simpa using he, k, hk', (bk_rev _ _ hk').symm, fun j hj => ?_⟩
      have := hn j hj
      rw [bk_rev _ _ (by omega)] at this
      simpa using this
    rw [this]
/-! ### no table -/
set_option maxRecDepth 100000 in
theorem tback_nil (id : Int) (a : Option Addr) (n c : Nat) (W : World) : Calls Try.prog 14 #[.pointer none, .int .i64 id, .slice a n c] W fun x w' => x = .returned (.tuple #[.slice none 0 0, .int .i64 1]) ∧ W = w' := by
  have KM := Lib.hid (made_nil W)
  go_enter Try.func14, Try.ntmps14
  go_wp2_with fail
  refine KM.out.mono ?_
  rintro x w1 ⟨rfl, rfl⟩
  go_wp2
  refine bodyPost_ret (v := .tuple #[.slice none 0 0, .int .i64 1]) ?_ rfl ⟨rfl, rfl⟩
  simp [results, Try.results14, go_sem]
set_option maxRecDepth 100000 in
theorem tdrop_nil (a : Option Addr) (n c : Nat) (W : World) : Calls Try.prog 13 #[.pointer none, .slice a n c] W fun x w' => x = .returned (.int .i64 0) ∧ W = w' := by
  have KM := Lib.hid (made_nil W)
  go_enter Try.func13, Try.ntmps13
  go_wp2_with fail
  refine KM.out.mono ?_
  rintro x w1 ⟨rfl, rfl⟩
  go_wp2
  go_ret
  exact ⟨rfl, rfl⟩
/-! ### a table's Back -/
section
variable {W : World} {B t M n : Nat} {m : Int → Option (Nat × KnD)}
set_option maxRecDepth 100000 in
set_option maxHeartbeats 4000000 in
/-- All that is to be taken back of one that is open. -/
theorem tback_all (h : TbAt W B t M n m) (i : Int) (hi : (Lit.int .i64 i).wf = true) {K : Nat} {d : KnD} (hm : m i = some (K, d)) (hst : d.st = 1) (hl : d.cl.length ≤ 100000) :
    Calls Try.prog 14 #[.pointer (some ⟨t, 0, none⟩), .int .i64 i, .slice none 0 0] W fun x w' => ∃ v, x = .returned (.tuple #[v, .int .i64 0]) ∧ RecR w' W.heap.size v d.cl.reverse ∧ Below W.heap.size W w' := by
  have KM := Lib.hid (made_yes h.ct)
  have hk := h.kn i K d hm
  have ct := h.ct
  have k4 := hk.c4
  rw [hst] at k4
  have lk : (Instr.lookup 68 (.map (some M)) (.int .i64 i) false).run Try.prog W = .ok (.pointer (some ⟨K, 0, none⟩)) W := by
    have := h.fr.look i hi
    rw [hm] at this
    exact this
  have KB := Lib.hid (behind_any hk 0 0 (Nat.zero_le _) hl)
  clear hk h hm hst
  go_enter Try.func14, Try.ntmps14
  go_wp2_with fail
  refine KM.out.mono ?_
  rintro x w1 ⟨rfl, rfl⟩
  go_wp2_with fail
  refine KB.out.mono ?_
  rintro x w2 ⟨v, rfl, hr, hb⟩
  go_wp2
  refine bodyPost_ret (v := .tuple #[v, .int .i64 0]) ?_ rfl ⟨v, rfl, by rw [List.drop_zero] at hr; exact hr, hb⟩
  simp [results, Try.results14, go_sem]
set_option maxRecDepth 100000 in
set_option maxHeartbeats 4000000 in
/-- What is to be taken back to a place. -/
theorem tback_place (h : TbAt W B t M n m) (i : Int) (hi : (Lit.int .i64 i).wf = true) {K : Nat} {d : KnD} (hm : m i = some (K, d)) (hst : d.st = 1) (hl : d.cl.length ≤ 100000) (hpl : d.pl.length ≤ 100000)
    (no : Int) (b off z c : Nat) (hz : z ≤ 100000) (hno : W.cell? ⟨b, off + z, none⟩ = some (.int .i64 no)) {p1 : Int} {ch : Nat} (hp : placeM d.pl no = some (p1, (ch : Int))) (hch : ch ≤ d.cl.length) :
    Calls Try.prog 14 #[.pointer (some ⟨t, 0, none⟩), .int .i64 i, .slice (some ⟨b, off, none⟩) (z + 1) c] W fun x w' => ∃ v, x = .returned (.tuple #[v, .int .i64 0]) ∧ RecR w' W.heap.size v (d.cl.drop ch).reverse ∧ Below W.heap.size W w' := by
  have KM := Lib.hid (made_yes h.ct)
  have hk := h.kn i K d hm
  have ct := h.ct
  have k4 := hk.c4
  rw [hst] at k4
  have lk : (Instr.lookup 68 (.map (some M)) (.int .i64 i) false).run Try.prog W = .ok (.pointer (some ⟨K, 0, none⟩)) W := by
    have := h.fr.look i hi
    rw [hm] at this
    exact this
  have KP := place_any hk no hpl
  rw [hp] at KP
  have KP := Lib.hid KP
  have HK := Lib.hid hk
  clear hk h hm hst hp
  go_enter Try.func14, Try.ntmps14
  go_wp2_with fail
  refine KM.out.mono ?_
  rintro x w1 ⟨rfl, rfl⟩
  go_wp2_with fail
  refine KP.out.mono ?_
  rintro x w2 ⟨rfl, hb⟩
  have hba := (Below.refl w2.heap.size w2).alloc (Nat.le_refl _) (.cells #[.int .i64 p1, .int .i64 ch] 60)
  have hb2 := hb.trans (hba.mono hb.size)
  have KB := Lib.hid (behind_any (HK.out.below hb2) p1 ch hch hl)
  have HB := Lib.hid hb2
  have g0 : (w2.alloc (.cells #[.int .i64 p1, .int .i64 ch] 60)).cell? ⟨w2.heap.size, 0, none⟩ = some (.int .i64 p1) := new_cell rfl rfl
  have g1 : (w2.alloc (.cells #[.int .i64 p1, .int .i64 ch] 60)).cell? ⟨w2.heap.size, 1, none⟩ = some (.int .i64 ch) := new_cell rfl rfl
  clear hb hba hb2 HK
  go_wp2_with fail
  refine KB.out.mono ?_
  rintro x w3 ⟨v, rfl, hr, hb3⟩
  have hb4 := HB.out.trans (hb3.mono HB.out.size)
  go_wp2
  refine bodyPost_ret (v := .tuple #[v, .int .i64 0]) ?_ rfl ⟨v, rfl, rec_base hr HB.out.size, hb4⟩
  simp [results, Try.results14, go_sem]
end
end Go.Proofs.Ytophbefmlfieeaa
