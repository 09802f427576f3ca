/-
  THE CONTRACTS OF pool's Flush, of a pool that has one page, a dirty one without cells.
-/
import Derived.Test.YtpkbopeddhgnlaaGreatDoorPlFlush
import Derived.Deep.Cut
import Derived.Deep.CutRange
import Derived.Deep.DeepCutAuto
namespace Go.Proofs.YtpkbopeddhgnlaaGreatDoor
open Go.RowKit
section
variable {w W X : World} {D P L M n B T np Q room MF k : Nat} {now : Nat → Pg} {o : Int → Option Nat} {fv : Int → FrD}
theorem dirtyNo_one (fv : Int → FrD) (no : Int) (hf : 0 < (fv no).first) : dirtyNo fv [no] = [no] := by
  unfold dirtyNo dirtyOf
  rw [List.filter_cons_of_pos (by simpa using hf)]
  rfl
set_option maxRecDepth 100000 in
set_option maxHeartbeats 4000000 in
theorem flush_one (h : PlS w W D P L M n B T np now Q room MF k o fv) (no : Int) (hwf : (Lit.int .i64 no).wf = true) {F : Nat} (hk : KeysOf o [no]) (e : o no = some F) (hf : 0 < (fv no).first) (hz r cnt : Int) (Z : World → Prop)
    (hcl : ∀ X HB PB CB, Below W.heap.size W X → W.heap.size ≤ CB → X.cell? ⟨HB, 0, none⟩ = some (.int .i64 hz) → X.cell? ⟨PB, 0, none⟩ = some (.pointer (some ⟨Q, 0, none⟩)) → X.cell? ⟨CB, 0, none⟩ = some (.int .i64 0) → X.frozen? ⟨CB, 0, none⟩ = false →
      Calls Tryz.prog 40 #[.pointer (some ⟨F, 0, none⟩), .pointer (some ⟨HB, 0, none⟩), .pointer (some ⟨PB, 0, none⟩), .pointer (some ⟨CB, 0, none⟩)] X fun x w' => x = .returned (.int .i64 r) ∧ (w'.cell? ⟨CB, 0, none⟩ = some (.int .i64 cnt) ∧ Z w')) :
    Calls Tryz.prog 13 #[.pointer (some ⟨Q, 0, none⟩), .int .i64 hz, .slice none 0 0] W fun x w' => x = .returned (.tuple #[.int .i64 cnt, .int .i64 r]) ∧ Z w' := by
  have hb1 := (Below.refl W.heap.size W).alloc (Nat.le_refl _) (.cells #[.pointer (some ⟨Q, 0, none⟩)] 30)
  have hs1 : (W.alloc (.cells #[.pointer (some ⟨Q, 0, none⟩)] 30)).heap.size = W.heap.size + 1 := by simp
  have hb2 := hb1.alloc hb1.size (.cells #[.int .i64 hz] 3)
  have p0 : ((W.alloc (.cells #[.pointer (some ⟨Q, 0, none⟩)] 30)).alloc (.cells #[.int .i64 hz] 3)).cell? ⟨W.heap.size, 0, none⟩ = some (.pointer (some ⟨Q, 0, none⟩)) := Dv.keep_cell ((Below.refl _ _).alloc (Nat.le_refl _) _) (Dv.new_cell rfl rfl)
  have p1 : ((W.alloc (.cells #[.pointer (some ⟨Q, 0, none⟩)] 30)).alloc (.cells #[.int .i64 hz] 3)).cell? ⟨W.heap.size + 1, 0, none⟩ = some (.int .i64 hz) := Dv.new_cell hs1.symm rfl
  have h1 := h.below hb2
  have HCL := Lib.hid hcl
  clear h hcl hs1 hb1
  go_enter Tryz.func13, Tryz.ntmps13
  go_upto_region 1 with fail
  generalize (W.alloc (.cells #[.pointer (some ⟨Q, 0, none⟩)] 30)).alloc (.cells #[.int .i64 hz] 3) = X at *
  have KN := Lib.hid (nums_any h1 hk (fun i hi => by rw [List.mem_singleton] at hi; rw [hi]; exact hwf))
  rw [dirtyNo_one fv no hf] at KN
  have H1 := Lib.hid h1
  have HE := Lib.hid e
  have HB2 := Lib.hid hb2
  have HWF := Lib.hid hwf
  clear h1 e hk hf hb2 hwf
  go_wp2_with fail
  refine KN.out.mono ?_
  rintro x w1 ⟨a, c, rfl, hir, _, hb1⟩
  have h2 := H1.out.below hb1
  have hb3 := (Below.refl w1.heap.size w1).alloc (Nat.le_refl _) (.cells #[.int .i64 0] 3)
  have h3 := h2.below hb3
  have hir3 := hir.below hb3
  have q0 := Dv.keep_cell hb3 (Dv.keep_cell hb1 p0)
  have q1 := Dv.keep_cell hb3 (Dv.keep_cell hb1 p1)
  have q2 : (w1.alloc (.cells #[.int .i64 0] 3)).cell? ⟨w1.heap.size, 0, none⟩ = some (.int .i64 0) := Dv.new_cell rfl rfl
  have q2f : (w1.alloc (.cells #[.int .i64 0] 3)).frozen? ⟨w1.heap.size, 0, none⟩ = false := World.frozen?_alloc_at _ _ _ _ rfl
  have hle : W.heap.size ≤ w1.heap.size := Nat.le_trans HB2.out.size hb1.size
  have hbX : Below W.heap.size W (w1.alloc (.cells #[.int .i64 0] 3)) := (HB2.out.trans (hb1.mono HB2.out.size)).trans (hb3.mono hle)
  have KC := HCL.out _ (W.heap.size + 1) W.heap.size w1.heap.size hbX hle q1 q0 q2 q2f
  have KE := Lib.hid (each_one Q MF k o 40 #[.pointer (some ⟨W.heap.size + 1, 0, none⟩), .pointer (some ⟨W.heap.size, 0, none⟩), .pointer (some ⟨w1.heap.size, 0, none⟩)] a c no F _ HWF.out (enters_of Tryz.func40 (by kernel_rfl) rfl) h3.q2 h3.mp hir3 HE.out r _ KC)
  clear KC hbX h2 h3 hir hir3 hb1 hb3 q1 q2 q2f hle H1 HCL HE HWF KN p0 p1 HB2
  go_upto_region 4 with fail
  generalize w1.alloc (.cells #[.int .i64 0] 3) = Y at *
  go_wp2_with fail
  refine KE.out.mono ?_
  rintro x w5 ⟨rfl, hc5, hz5⟩
  have HZ5 := Lib.hid hz5
  clear hz5 KE q0
  go_wp2
  exact bodyPost_ret (v := .tuple #[.int .i64 cnt, .int .i64 r]) (by simp [results, Tryz.results13, go_sem]) rfl ⟨rfl, HZ5.out⟩
/-- Ahead of the horizon. -/
theorem flush_busy (h : PlS w W D P L M n B T np now Q room MF k o fv) (no : Int) (hwf : (Lit.int .i64 no).wf = true) {F : Nat} (hk : KeysOf o [no]) (e : o no = some F) (hf : 0 < (fv no).first) (hz : Int) (hg : hz < (fv no).g) :
    Calls Tryz.prog 13 #[.pointer (some ⟨Q, 0, none⟩), .int .i64 hz, .slice none 0 0] W fun x w' => x = .returned (.tuple #[.int .i64 0, .int .i64 10]) ∧ PlS w w' D P L M n B T np now Q room MF k o fv ∧ Below W.heap.size W w' :=
  flush_one h no hwf hk e hf hz 10 0 (fun w' => PlS w w' D P L M n B T np now Q room MF k o fv ∧ Below W.heap.size W w') (fun X HB PB CB hbX hle hb pb cb cf => by
    refine (fl_busy (h.below hbX) no e HB PB CB hz hb hf hg).mono ?_
    rintro x w' ⟨rfl, q, rfl⟩
    have hbd := below_drewN (Below.refl X.heap.size X) q
    exact ⟨rfl, Dv.keep_cell hbd cb, (h.below hbX).below hbd, hbX.trans (hbd.mono hbX.size)⟩)
/-- Not ahead of it. -/
theorem flush_put (h : PlS w W D P L M n B T np now Q room MF k o fv) (hn : n ≤ 4096) (h3 : 5 + 4 * np ≤ n) (hB : B + 14 ≤ 900000) (no : Nat) (hno : no < np) (hwf : (Lit.int .i64 (no : Int)).wf = true) {F : Nat} (hk : KeysOf o [(no : Int)]) (e : o (no : Int) = some F) (hf : 0 < (fv no).first) (hz : Int) (hg : (fv no).g ≤ hz) (hl : (fv no).l = []) (hok : pgOk no (fv no).g [] = true) :
    Calls Tryz.prog 13 #[.pointer (some ⟨Q, 0, none⟩), .int .i64 hz, .slice none 0 0] W fun x w' => x = .returned (.tuple #[.int .i64 1, .int .i64 0]) ∧
      PlS w w' D P L M n (B + 14) T np (setPg now no ((fv no).g, [])) Q room MF k o (updV fv no ⟨(fv no).g, (fv no).v, [], 0, (fv no).pins⟩) ∧ ∀ b, b < W.heap.size → b ≠ P → b ≠ L → b ≠ M → b ≠ F → w'.heap[b]? = W.heap[b]? :=
  flush_one h no hwf hk e hf hz 0 1 (fun w' => PlS w w' D P L M n (B + 14) T np (setPg now no ((fv no).g, [])) Q room MF k o (updV fv no ⟨(fv no).g, (fv no).v, [], 0, (fv no).pins⟩) ∧ ∀ b, b < W.heap.size → b ≠ P → b ≠ L → b ≠ M → b ≠ F → w'.heap[b]? = W.heap[b]?) (fun X HB PB CB hbX hle hb pb cb cf => by
    have l1 := h.lts
    have l2 := h.tk.lts
    have l3 := l1.2.2 _ F e
    have l4 := h.bw.size
    refine (fl_store (h.below hbX) hn h3 hB no hno e HB PB CB hz 0 hb pb cb cf ⟨by omega, by omega⟩ ⟨by omega, by omega, by omega, by omega, by omega⟩ (fun i F' ei => by have := l1.2.2 i F' ei; omega) (fun i F' r ei hr => by have := row_lt (h.fr i F' ei).row hr; omega) hf hg hl hok).mono ?_
    rintro x w' ⟨rfl, hp, hc, _, hkp⟩
    exact ⟨rfl, hc, hp, fun b hb h1 h2 h3 h4 => (hkp b (Nat.lt_of_lt_of_le hb hbX.size) h1 h2 h3 h4 (by omega)).trans (hbX.block b hb)⟩)
end
end Go.Proofs.YtpkbopeddhgnlaaGreatDoor
