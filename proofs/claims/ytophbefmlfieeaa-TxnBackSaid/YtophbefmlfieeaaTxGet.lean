/-
  THE CONTRACTS OF a table's Get, and of Back of none, or of one that isn't open.
-/
import Derived.Test.YtophbefmlfieeaaTxTold
import Derived.Test.YtophbefmlfieeaaTxBackT
namespace Go.Proofs.Ytophbefmlfieeaa
open Go.RowKit
def zTx : Value := .agg #[.int .i64 0, .int .i64 0, .int .i64 0, .int .i64 0, .int .i64 0, .slice none 0 0, .slice none 0 0]
section
variable {W : World} {B t M n : Nat} {m : Int → Option (Nat × KnD)}
theorem look_none (h : TbAt W B t M n m) (i : Int) (hi : (Lit.int .i64 i).wf = true) (hm : m i = none) : (Instr.lookup 68 (.map (some M)) (.int .i64 i) false).run Try.prog W = .ok (.pointer none) W := by
  have := h.fr.look i hi
  rw [hm] at this
  exact this
theorem look_some (h : TbAt W B t M n m) (i : Int) (hi : (Lit.int .i64 i).wf = true) {K : Nat} {d : KnD} (hm : m i = some (K, d)) : (Instr.lookup 68 (.map (some M)) (.int .i64 i) false).run Try.prog W = .ok (.pointer (some ⟨K, 0, none⟩)) W := by
  have := h.fr.look i hi
  rw [hm] at this
  exact this
set_option maxRecDepth 100000 in
set_option maxHeartbeats 4000000 in
theorem tget_none (h : TbAt W B t M n m) (i : Int) (hi : (Lit.int .i64 i).wf = true) (hm : m i = none) :
    Calls Try.prog 20 #[.pointer (some ⟨t, 0, none⟩), .int .i64 i] W fun x w' => x = .returned (.tuple #[zTx, .bool false]) ∧ Below W.heap.size W w' := by
  have hb0 := (Below.refl W.heap.size W).alloc (Nat.le_refl _) (.cells #[.int .i64 0, .int .i64 0, .int .i64 0, .int .i64 0, .int .i64 0, .slice none 0 0, .slice none 0 0] 56)
  have h1 := h.below hb0
  have KM := Lib.hid (made_yes h1.ct)
  have ct := h1.ct
  have lk := look_none h1 i hi hm
  have b0 : BoxL (W.alloc (.cells #[.int .i64 0, .int .i64 0, .int .i64 0, .int .i64 0, .int .i64 0, .slice none 0 0, .slice none 0 0] 56)) W.heap.size [.int .i64 0, .int .i64 0, .int .i64 0, .int .i64 0, .int .i64 0, .slice none 0 0, .slice none 0 0] := BoxL.new W [.int .i64 0, .int .i64 0, .int .i64 0, .int .i64 0, .int .i64 0, .slice none 0 0, .slice none 0 0] 56
  have x0 := b0.at' 0 _ rfl
  have x1 := b0.at' 1 _ rfl
  have x2 := b0.at' 2 _ rfl
  have x3 := b0.at' 3 _ rfl
  have x4 := b0.at' 4 _ rfl
  have x5 := b0.at' 5 _ rfl
  have x6 := b0.at' 6 _ rfl
  have xf := b0.fz
  have HB := Lib.hid hb0
  clear hb0 h h1 hm b0
  go_enter Try.func20, Try.ntmps20
  go_upto_region 1 with fail
  generalize W.alloc (.cells #[.int .i64 0, .int .i64 0, .int .i64 0, .int .i64 0, .int .i64 0, .slice none 0 0, .slice none 0 0] 56) = Y at *
  go_wp2_with fail
  refine KM.out.mono ?_
  rintro x w1 ⟨rfl, rfl⟩
  go_wp2
  refine bodyPost_ret (v := .tuple #[zTx, .bool false]) ?_ rfl ⟨rfl, below_sets (Nat.le_refl _) [.int .i64 0, .int .i64 0, .int .i64 0, .int .i64 0, .int .i64 0, .slice none 0 0, .slice none 0 0] 0 Y HB.out⟩
  simp [results, Try.results20, go_sem, x0, x1, x2, x3, x4, x5, x6, zTx]
set_option maxRecDepth 100000 in
set_option maxHeartbeats 4000000 in
theorem tget_some (h : TbAt W B t M n m) (i : Int) (hi : (Lit.int .i64 i).wf = true) {K : Nat} {d : KnD} (hm : m i = some (K, d)) (hl : d.cl.length ≤ 100000) (hpl : d.pl.length ≤ 100000) :
    Calls Try.prog 20 #[.pointer (some ⟨t, 0, none⟩), .int .i64 i] W fun x w' => ∃ v, x = .returned (.tuple #[v, .bool true]) ∧ TldP W d (.returned v) w' := by
  have hb0 := (Below.refl W.heap.size W).alloc (Nat.le_refl _) (.cells #[.int .i64 0, .int .i64 0, .int .i64 0, .int .i64 0, .int .i64 0, .slice none 0 0, .slice none 0 0] 56)
  have h1 := h.below hb0
  have KM := Lib.hid (made_yes h1.ct)
  have ct := h1.ct
  have lk := look_some h1 i hi hm
  have KT := Lib.hid (told_any (h1.kn i K d hm) hl hpl)
  have b0 : BoxL (W.alloc (.cells #[.int .i64 0, .int .i64 0, .int .i64 0, .int .i64 0, .int .i64 0, .slice none 0 0, .slice none 0 0] 56)) W.heap.size [.int .i64 0, .int .i64 0, .int .i64 0, .int .i64 0, .int .i64 0, .slice none 0 0, .slice none 0 0] := BoxL.new W [.int .i64 0, .int .i64 0, .int .i64 0, .int .i64 0, .int .i64 0, .slice none 0 0, .slice none 0 0] 56
  have H0 := Lib.hid b0
  have HB := Lib.hid hb0
  have HS : Hid (W.heap.size < (W.alloc (.cells #[.int .i64 0, .int .i64 0, .int .i64 0, .int .i64 0, .int .i64 0, .slice none 0 0, .slice none 0 0] 56)).heap.size) := by
    show _ < _
    rw [World.size_alloc]
    exact Nat.lt_succ_self _
  clear hb0 h h1 hm b0 hl hpl
  go_enter Try.func20, Try.ntmps20
  go_upto_region 1 with fail
  generalize W.alloc (.cells #[.int .i64 0, .int .i64 0, .int .i64 0, .int .i64 0, .int .i64 0, .slice none 0 0, .slice none 0 0] 56) = Y at *
  go_wp2_with fail
  refine KM.out.mono ?_
  rintro x w1 ⟨rfl, rfl⟩
  go_wp2_with fail
  refine KT.out.mono ?_
  rintro x w2 ⟨cv, pv, rfl, hr, hp, hs, hb2⟩
  obtain ⟨ca, cc, rfl⟩ := hr.slice
  obtain ⟨pa, pc, rfl⟩ := hp.slice
  have b1 := H0.out.below hb2
  have x0 := b1.at' 0 _ rfl
  have x1 := b1.at' 1 _ rfl
  have x2 := b1.at' 2 _ rfl
  have x3 := b1.at' 3 _ rfl
  have x4 := b1.at' 4 _ rfl
  have x5 := b1.at' 5 _ rfl
  have x6 := b1.at' 6 _ rfl
  have xf := b1.fz
  have HR := Lib.hid hr
  have HP := Lib.hid hp
  have HE := Lib.hid hs
  have HB2 := Lib.hid (HB.out.trans (hb2.mono HB.out.size))
  clear b1 hr hp hs hb2 KT KM ct lk
  go_wp2
  refine bodyPost_ret (v := .tuple #[.agg #[.int .i64 d.id, .int .i64 d.home, .int .i64 d.first, .int .i64 d.last, .int .i64 d.st, .slice ca d.cl.length cc, .slice pa d.pl.length pc], .bool true]) ?_ rfl ⟨_, rfl, _, _, rfl, rec_base (rec_others HS.out [.int .i64 d.id, .int .i64 d.home, .int .i64 d.first, .int .i64 d.last, .int .i64 d.st, .slice ca d.cl.length cc, .slice pa d.pl.length pc] 0 w2 HR.out) (Nat.le_of_lt HS.out), plc_base (plc_others HS.out [.int .i64 d.id, .int .i64 d.home, .int .i64 d.first, .int .i64 d.last, .int .i64 d.st, .slice ca d.cl.length cc, .slice pa d.pl.length pc] 0 w2 HP.out) (Nat.le_of_lt HS.out), HE.out, below_sets (Nat.le_refl _) [.int .i64 d.id, .int .i64 d.home, .int .i64 d.first, .int .i64 d.last, .int .i64 d.st, .slice ca d.cl.length cc, .slice pa d.pl.length pc] 0 w2 HB2.out⟩
  simp [results, Try.results20, go_sem, x0, x1, x2, x3, x4, x5, x6]
set_option maxRecDepth 100000 in
set_option maxHeartbeats 4000000 in
theorem tback_none (h : TbAt W B t M n m) (i : Int) (hi : (Lit.int .i64 i).wf = true) (hm : m i = none) (a : Option Addr) (z c : Nat) :
    Calls Try.prog 14 #[.pointer (some ⟨t, 0, none⟩), .int .i64 i, .slice a z c] W fun x w' => x = .returned (.tuple #[.slice none 0 0, .int .i64 7]) ∧ W = w' := by
  have KM := Lib.hid (made_yes h.ct)
  have ct := h.ct
  have lk := look_none h i hi hm
  clear h hm
  go_enter Try.func14, Try.ntmps14
  go_wp2_with fail
  refine KM.out.mono ?_
  rintro x w1 ⟨rfl, rfl⟩
  go_wp2
  refine bodyPost_ret (v := .tuple #[.slice none 0 0, .int .i64 7]) ?_ rfl ⟨rfl, rfl⟩
  simp [results, Try.results14, go_sem]
set_option maxRecDepth 100000 in
set_option maxHeartbeats 4000000 in
theorem tback_state (h : TbAt W B t M n m) (i : Int) (hi : (Lit.int .i64 i).wf = true) {K : Nat} {d : KnD} (hm : m i = some (K, d)) (hst : ¬ d.st = 1) (a : Option Addr) (z c : Nat) :
    Calls Try.prog 14 #[.pointer (some ⟨t, 0, none⟩), .int .i64 i, .slice a z c] W fun x w' => x = .returned (.tuple #[.slice none 0 0, .int .i64 12]) ∧ W = w' := by
  have KM := Lib.hid (made_yes h.ct)
  have ct := h.ct
  have k4 := (h.kn i K d hm).c4
  have lk := look_some h i hi hm
  clear h hm
  go_enter Try.func14, Try.ntmps14
  go_wp2_with fail
  refine KM.out.mono ?_
  rintro x w1 ⟨rfl, rfl⟩
  go_wp2
  refine bodyPost_ret (v := .tuple #[.slice none 0 0, .int .i64 12]) ?_ rfl ⟨rfl, rfl⟩
  simp [results, Try.results14, go_sem]
end
end Go.Proofs.Ytophbefmlfieeaa
