/-
  LAW 05's begin: the model of a device of so many sectors.
-/
import Derived.Test.YtobgopiadfinbaaDpSide
import Derived.Test.YtobgopiadfinbaaDvTwo
import Derived.Deep.RegionLaw
import Derived.Deep.RegionHeld3
import Derived.Deep.RegionLawGrows
import Derived.StillTailTactics
import Derived.BigRegion
import Derived.Deep.Cut
import Derived.Deep.CutRange
import Derived.Deep.DeepCutAuto
import Derived.Deep.CutBlock
import Derived.BigQuiet
import Derived.WalkSpells
namespace Go.Proofs.Ytobgopiadfinbaa
open Go.RowKit
/-- append of a text to a row of the call's own, as a step of a region that draws. -/
theorem step_append_s {ops : Array Oper} {o : Oper} {a : Act} {w : World} {K : Act → World → Prop} {Q : Exit → Act → World → Prop} {E : Prop}
    (hg : o.guard = none) (s x : Operand) (hop : o.op = Op.call { callee := Callee.builtin Builtin.append, args := #[s, x], argTypes := #[35, 35] })
    (B : Nat) (v : Value) (l : List ByteArray) (ad : Addr) (y : ByteArray) (c : Nat) (hs : a.eval s = v) (hown : RowS w B v l) (hx : a.eval x = .slice (some ad) 1 c) (hm : ∀ j u, ([.string y] : List Value)[j]? = some u → w.cell? (ad.add j) = some u) (h10 : l.length ≤ 100000) (hB : B ≤ w.heap.size)
    (hK : ∀ v' w', RowS w' B v' (l ++ [y]) → w.grownBy w' v.ownBlock → (v'.ownBlock = v.ownBlock ∨ v'.ownBlock = some w.heap.size) → K (a.put o.dst v') w') :
    if Region.wanted o (yielded ops a.tmps) = true then Oper.wp Try.prog o a w K Q else E := by
  have hw : Region.wanted o (yielded ops a.tmps) = true := by simp [Region.wanted, hg]
  rw [if_pos hw]
  obtain ⟨i0, hi, hzz⟩ := Option.map_eq_some_iff.1 infoS
  simp only [Prod.mk.injEq] at hzz
  obtain ⟨hz0, hz1, hz2⟩ := hzz
  obtain ⟨v', w', hrun, r1, r2, _, r4⟩ := run_append_own_at (P := Try.prog) w B 35 o.type 9 i0 _ 1 16 Try.underlying35 hi hz0 hz1 hz2 rfl (by decide) v l.length (l.map Value.string) hown ad 1 c [.string y] rfl hm (by intro u hu; simp at hu; subst hu; rfl) (by unfold maxLen; omega) (by omega) hB
  unfold Oper.wp
  simp [execOp, hop, resolve, invoke, builtin, hs, hx, hrun, Result.andThen]
  refine hK v' w' ?_ r2 r4
  unfold RowS
  rw [List.length_append, List.map_append]
  exact r1
def blk (n : Nat) : List ByteArray := List.replicate n (txt blank64)
theorem blk_succ (n : Nat) : blk (n + 1) = blk n ++ [txt blank64] := by unfold blk; rw [List.replicate_succ']
theorem blk_len (n : Nat) : (blk n).length = n := by unfold blk; rw [List.length_replicate]
/-- The model while it is begun. -/
structure Bg (W w : World) (MB : Nat) (v1 v2 : Value) (j1 j2 : Nat) : Prop where
  c0 : w.cell? ⟨MB, 0, none⟩ = some v1
  c1 : w.cell? ⟨MB, 1, none⟩ = some v2
  c2 : w.cell? ⟨MB, 2, none⟩ = some (.slice none 0 0)
  fz : ∀ i, w.frozen? ⟨MB, i, none⟩ = false
  r1 : RowS w (MB + 1) v1 (blk j1)
  r2 : RowS w (MB + 1) v2 (blk j2)
  sp : ∀ g, v1.ownBlock = some g → v2.ownBlock ≠ some g
  lo : W.heap.size ≤ MB
  bw : Below W.heap.size W w
section
variable {W w w' : World} {MB : Nat} {v1 v2 v : Value} {j1 j2 : Nat}
theorem Bg.lt (h : Bg W w MB v1 v2 j1 j2) : MB < w.heap.size := block_lt (p := ⟨MB, 0, none⟩) h.c0
theorem Bg.below (h : Bg W w MB v1 v2 j1 j2) (hb : Below w.heap.size w w') : Bg W w' MB v1 v2 j1 j2 :=
  ⟨keep_cell hb h.c0, keep_cell hb h.c1, keep_cell hb h.c2, fun i => (hb.frozen (p := ⟨MB, i, none⟩) h.lt).trans (h.fz i), h.r1.below hb, h.r2.below hb, h.sp, h.lo, h.bw.trans (hb.mono h.bw.size)⟩
theorem grown_cell {k : Option Nat} {p : Addr} {u : Value} (hg : w.grownBy w' k) (hk : k ≠ some p.block) (hc : w.cell? p = some u) : w'.cell? p = some u :=
  (World.cell?_of_block (hg.block p.block (block_lt hc) (fun e => hk e.symm))).trans hc
theorem own_ne {u : Value} {l : List ByteArray} (h : RowS w (MB + 1) u l) : u.ownBlock ≠ some MB := fun e => by have := (h.lt MB e).1; omega
theorem Bg.put0 (h : Bg W w MB v1 v2 j1 j2) (r : RowS w' (MB + 1) v (blk (j1 + 1))) (hg : w.grownBy w' v1.ownBlock) (ho : v.ownBlock = v1.ownBlock ∨ v.ownBlock = some w.heap.size) :
    w'.cell? ⟨MB, 0, none⟩ = some v1 ∧ w'.frozen? ⟨MB, 0, none⟩ = false ∧ Bg W (w'.setCell ⟨MB, 0, none⟩ v) MB v v2 (j1 + 1) j2 := by
  have hn := own_ne h.r1
  have q0 := grown_cell (p := ⟨MB, 0, none⟩) hg hn h.c0
  have q1 := grown_cell (p := ⟨MB, 1, none⟩) hg hn h.c1
  have q2 := grown_cell (p := ⟨MB, 2, none⟩) hg hn h.c2
  have qf : ∀ i, w'.frozen? ⟨MB, i, none⟩ = false := fun i => (World.frozen?_of_block (a := ⟨MB, i, none⟩) (hg.block MB h.lt (fun e => hn e.symm))).trans (h.fz i)
  have k2 : RowS w' (MB + 1) v2 (blk j2) := World.ownsRow.kept h.r2 hg (by
    cases e : v2.ownBlock with
    | none => exact .inl rfl
    | some g => exact .inr (fun e2 => h.sp g e2.symm e))
  refine ⟨q0, qf 0, World.cell?_setCell_same _ _ _ q0, setCell_at q1 (by decide), setCell_at q2 (by decide), fun i => by rw [World.frozen?_setCell]; exact qf i, ?_, ?_, ?_, h.lo, ?_⟩
  · exact World.ownsRow.kept r (Lib.grownBy_setCell w' MB 0 v) (.inr (own_ne r))
  · exact World.ownsRow.kept k2 (Lib.grownBy_setCell w' MB 0 v) (.inr (own_ne k2))
  · intro g e e2
    rcases ho with q | q
    · exact h.sp g (q ▸ e) e2
    · have := (h.r2.lt g e2).2
      rw [q] at e
      injection e with e
      omega
  · have hb1 : Below W.heap.size W w' := h.bw.grown hg h.bw.size (fun g e => by have := (h.r1.lt g e).1; have := h.lo; omega)
    exact hb1.setCell h.lo _
theorem Bg.put1 (h : Bg W w MB v1 v2 j1 j2) (r : RowS w' (MB + 1) v (blk (j2 + 1))) (hg : w.grownBy w' v2.ownBlock) (ho : v.ownBlock = v2.ownBlock ∨ v.ownBlock = some w.heap.size) :
    w'.cell? ⟨MB, 1, none⟩ = some v2 ∧ w'.frozen? ⟨MB, 1, none⟩ = false ∧ Bg W (w'.setCell ⟨MB, 1, none⟩ v) MB v1 v j1 (j2 + 1) := by
  have hn := own_ne h.r2
  have q0 := grown_cell (p := ⟨MB, 0, none⟩) hg hn h.c0
  have q1 := grown_cell (p := ⟨MB, 1, none⟩) hg hn h.c1
  have q2 := grown_cell (p := ⟨MB, 2, none⟩) hg hn h.c2
  have qf : ∀ i, w'.frozen? ⟨MB, i, none⟩ = false := fun i => (World.frozen?_of_block (a := ⟨MB, i, none⟩) (hg.block MB h.lt (fun e => hn e.symm))).trans (h.fz i)
  have k1 : RowS w' (MB + 1) v1 (blk j1) := World.ownsRow.kept h.r1 hg (by
    cases e : v1.ownBlock with
    | none => exact .inl rfl
    | some g => exact .inr (fun e2 => h.sp g e e2.symm))
  refine ⟨q1, qf 1, setCell_at q0 (by decide), World.cell?_setCell_same _ _ _ q1, setCell_at q2 (by decide), fun i => by rw [World.frozen?_setCell]; exact qf i, ?_, ?_, ?_, h.lo, ?_⟩
  · exact World.ownsRow.kept k1 (Lib.grownBy_setCell w' MB 1 v) (.inr (own_ne k1))
  · exact World.ownsRow.kept r (Lib.grownBy_setCell w' MB 1 v) (.inr (own_ne r))
  · intro g e e2
    rcases ho with q | q
    · exact h.sp g e (q ▸ e2)
    · have := (h.r1.lt g e).2
      rw [q] at e2
      injection e2 with e2
      omega
  · have hb1 : Below W.heap.size W w' := h.bw.grown hg h.bw.size (fun g e => by have := (h.r2.lt g e).1; have := h.lo; omega)
    exact hb1.setCell h.lo _
end
/-- What begin leaves. -/
def BgP (W : World) (n : Nat) (x : Ending) (w' : World) : Prop :=
  ∃ MB gl gn cl cn, x = .returned (.pointer (some ⟨MB, 0, none⟩)) ∧ MdAt w' MB gl gn cl cn none 0 n (fun _ => txt blank64) (fun _ => txt blank64) [] ∧ Below W.heap.size W w' ∧ W.heap.size ≤ MB ∧ W.heap.size ≤ gl ∧ W.heap.size ≤ gn
theorem CR.begun (n : Nat) : CR n (List.replicate n blank64) (fun _ => none) (fun _ => txt blank64) (fun _ => txt blank64) [] := by
  have e : ∀ i, (List.replicate n blank64).getD i blank64 = blank64 := fun i => by
    rw [List.getD_eq_getElem?_getD, List.getElem?_replicate]
    by_cases h : i < n
    · rw [if_pos h]; rfl
    · rw [if_neg h]; rfl
  exact ⟨fun i _ => by rw [e], fun i _ => by
    show txt blank64 = txt ((List.replicate n blank64).getD i blank64)
    rw [e], List.Pairwise.nil, fun z => by simp, Nat.zero_le _⟩
theorem row_cap {w : World} {B n c : Nat} {a : Addr} {j : Nat} (h : RowS w B (.slice (some a) j c) (blk n)) : n ≤ c := by
  rcases h.2 with ⟨e, _⟩ | ⟨g, cap, cur, hv, _, _, hnc, _⟩
  · cases e
  · injection hv with _ _ e
    rw [blk_len] at hnc
    omega
theorem Bg.done {W w : World} {MB : Nat} {v1 v2 : Value} {n : Nat} (h : Bg W w MB v1 v2 n n) (h1 : 1 ≤ n) : BgP W n (.returned (.pointer (some ⟨MB, 0, none⟩))) w := by
  obtain ⟨g1, c1, rfl, b1, e1⟩ := h.r1.cells (by rw [blk_len]; omega)
  obtain ⟨g2, c2, rfl, b2, e2⟩ := h.r2.cells (by rw [blk_len]; omega)
  have hg : ∀ j, j < n → (blk n).getD j ByteArray.empty = txt blank64 := fun j hj => by
    unfold blk
    rw [List.getD_eq_getElem?_getD, List.getElem?_replicate, if_pos hj]; rfl
  have hs : g1 ≠ g2 := fun e => h.sp g1 rfl (by rw [e]; rfl)
  have hc1 : n ≤ c1 := row_cap h.r1
  have hc2 : n ≤ c2 := row_cap h.r2
  refine ⟨MB, g1, g2, c1, c2, rfl, ⟨?_, ?_, h.c2, h.fz, ?_, ?_, fun i => World.ownsRow.frozenAt h.r1 i, fun i => World.ownsRow.frozenAt h.r2 i, .inl rfl, ⟨by omega, by omega, hs⟩, fun b off e => by (cases e), h1, ⟨hc1, hc2⟩⟩, h.bw, h.lo, Nat.le_trans h.lo (by omega), Nat.le_trans h.lo (by omega)⟩
  · have := h.c0; rw [blk_len] at this; exact this
  · have := h.c1; rw [blk_len] at this; exact this
  · intro i hi
    rw [e1 i (by rw [blk_len]; exact hi), hg i hi]
  · intro i hi
    rw [e2 i (by rw [blk_len]; exact hi), hg i hi]
theorem blk_form {w : World} {B j : Nat} {v : Value} (h : RowS w B v (blk (j + 1))) : ∃ g n c, v = .slice (some ⟨g, 0, none⟩) n c := by
  obtain ⟨g, c, e, _⟩ := h.cells (by rw [blk_len]; omega)
  exact ⟨g, _, c, e⟩
theorem str_src (w : World) (s : ByteArray) (T : TypeId) : ∀ j u, ([.string s] : List Value)[j]? = some u → (w.alloc (.cells #[.string s] T)).cell? ((⟨w.heap.size, 0, none⟩ : Addr).add j) = some u := fun j u hj => by
  match j, hj with
  | 0, hj => simp at hj; subst hj; exact new_cell rfl rfl
set_option maxRecDepth 100000 in
set_option maxHeartbeats 4000000 in
theorem begin_any (n : Nat) (W : World) (h1 : 1 ≤ n) (h2 : n ≤ 100) :
    Calls Try.prog 7 #[.int .i64 (n : Int)] W (BgP W n) := by
  have KB := Lib.hid (fun W1 => blank_any W1)
  have T0 : Hid (Bg W (W.alloc (.cells #[.slice none 0 0, .slice none 0 0, .slice none 0 0] 55)) W.heap.size (.slice none 0 0) (.slice none 0 0) 0 0) :=
    ⟨new_cell rfl rfl, new_cell rfl rfl, new_cell rfl rfl, fun i => World.frozen?_alloc_at _ _ _ _ rfl, RowS.none _ _, RowS.none _ _, fun _ e => by (cases e), Nat.le_refl _, (Below.refl _ _).alloc (Nat.le_refl _) _⟩
  have HS := Lib.hid (blk_succ)
  have HL := Lib.hid (blk_len)
  go_enter Try.func7, Try.ntmps7
  go_wp2
  generalize W.alloc (.cells #[.slice none 0 0, .slice none 0 0, .slice none 0 0] 55) = W1 at *
  generalize hMB : W.heap.size = MB at *
  go_loopw [4] (fun i wr => ∃ (j : Nat) (v1 v2 : Value), j ≤ n ∧ i = .int .i64 j ∧ Hid (Bg W wr MB v1 v2 j j)) (fun i _ => n - (intOf i).toNat)
  case atStart => exact ⟨0, _, _, Nat.zero_le _, rfl, T0⟩
  case round =>
    obtain ⟨j, v1, v2, hj, rfl, T1⟩ := hrel
    rename World => wa
    clear T0
    by_cases hlt : j < n
    · have hj0 : (0 : Int) ≤ (j : Int) := by omega
      have hj1 : (j : Int) < (n : Int) := by omega
      have hl1 := HL.out j
      go_upto_region 5 with fail
      have hVd := (Below.refl wa.heap.size wa).drew
      have T2 := Lib.hid (T1.out.below hVd)
      have m0 := T2.out.c0
      have mf := T2.out.fz
      clear hVd T1
      go_region_law ((first
        | (go_simp; go_at_call 16; (with_reducible refine (KB.out _).mono ?_); rintro x w2 ⟨rfl, hb2⟩; have T3 := Lib.hid (T2.out.below hb2); have hba := (Below.refl w2.heap.size w2).alloc (Nat.le_refl _) (.cells #[.string (txt blank64)] 9); have T4 := Lib.hid (T3.out.below hba); have m5 := T3.out.c0; have m6 := T4.out.c0; have HR := Lib.hid T4.out.r1; have HM := Lib.hid (str_src w2 (txt blank64) 9); have HB := Lib.hid (Nat.le_trans T3.out.lt hba.size); clear hb2 hba; go_simp)
        | (refine step_append_s (by rfl) _ _ (by rfl) (MB + 1) v1 (blk j) ⟨w2.heap.size, 0, none⟩ (txt blank64) 1 (by rfl) HR.out (by rfl) HM.out (by omega) HB.out ?_; intro v9 w9 r9 hg9 ho9; rw [← HS.out j] at r9; obtain ⟨g9, n9, c9, rfl⟩ := blk_form r9; obtain ⟨n5, n5f, T9⟩ := T4.out.put0 r9 hg9 ho9; have T9 := Lib.hid T9; clear hg9 ho9 r9)))
      all_goals
        clear HR HM HB m5 m6 T3 T4 T2 m0 mf n5 n5f
        go_upto_region 6 with fail
        generalize w9.setCell ⟨MB, 0, none⟩ (.slice (some ⟨g9, 0, none⟩) n9 c9) = wb at *
        have hVd := (Below.refl wb.heap.size wb).drew
        have T2 := Lib.hid (T9.out.below hVd)
        have m0 := T2.out.c1
        have mf := T2.out.fz
        clear hVd T9
        go_region_law ((first
          | (go_simp; go_at_call 16; (with_reducible refine (KB.out _).mono ?_); rintro x w12 ⟨rfl, hb2⟩; have T3 := Lib.hid (T2.out.below hb2); have hba := (Below.refl w12.heap.size w12).alloc (Nat.le_refl _) (.cells #[.string (txt blank64)] 9); have T4 := Lib.hid (T3.out.below hba); have m5 := T3.out.c1; have m6 := T4.out.c1; have HR := Lib.hid T4.out.r2; have HM := Lib.hid (str_src w12 (txt blank64) 9); have HB := Lib.hid (Nat.le_trans T3.out.lt hba.size); clear hb2 hba; go_simp)
          | (refine step_append_s (by rfl) _ _ (by rfl) (MB + 1) v2 (blk j) ⟨w12.heap.size, 0, none⟩ (txt blank64) 1 (by rfl) HR.out (by rfl) HM.out (by omega) HB.out ?_; intro v19 w19 r9 hg9 ho9; rw [← HS.out j] at r9; obtain ⟨g19, n19, c19, rfl⟩ := blk_form r9; obtain ⟨n5, n5f, T9⟩ := T4.out.put1 r9 hg9 ho9; have T9 := Lib.hid T9; clear hg9 ho9 r9)))
        all_goals
          clear HR HM HB m5 m6 T3 T4 T2 m0 mf n5 n5f
          go_wp2
          go_roundw
          case rel => exact ⟨j + 1, _, _, by omega, by go_num, T9⟩
          case measure => simp [intOf]; omega
    · obtain rfl : j = n := by omega
      have HD := Lib.hid (T1.out.done h1)
      clear T1
      go_wp2
      go_ret
      exact HD.out
end Go.Proofs.Ytobgopiadfinbaa
