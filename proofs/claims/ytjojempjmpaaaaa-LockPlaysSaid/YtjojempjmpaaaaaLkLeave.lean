/-
  A TABLE OF LOCKS: a waiter leaves a queue; leave.
-/
import Derived.Test.YtjojempjmpaaaaaLkAsk
namespace Go.Proofs.Ytjojempjmpaaaaa
open Go.RowKit
section
variable {B : Nat} {W X : World} {T ml mh mw n : Nat} {s : Lk}
theorem LkAt.dropQ (h : LkAt B W T ml mh mw n s) {i : Nat} {k : ByteArray} {K w : Nat} {q1 q2 : List Nat} (hi : i < 3) (hk : s.lk k = some K) (he : s.q i k = q1 ++ w :: q2) (hq : QAt X K (2 * i) (q1 ++ q2)) (hc : Cf W X (DropS K (2 * i) (q1 ++ q2))) :
    LkAt B X T ml mh mw n { s with q := updQ s.q i k (q1 ++ q2) } ∧ Fw X w (s.con w) := by
  have hw : w ∈ s.q i k := by rw [he]; simp
  have hx := h.wc i k w hi hw
  have hKT : K ≠ T := h.kT hk
  have sub : ∀ y, y ∈ q1 ++ q2 → y ∈ s.q i k := fun y hy => by
    rw [he]
    rcases List.mem_append.1 hy with c | c
    · exact List.mem_append_left _ c
    · exact List.mem_append_right _ (List.mem_cons_of_mem _ c)
  have nq : ∀ y, y ∈ q1 ++ q2 → WtAt W y (s.con y) := fun y hy => h.wc i k y hi (sub y hy)
  have hQ := h.qa k K hk i hi
  have hwn : w ∉ q1 ++ q2 := fun c => by
    have hnd := hQ.nd
    rw [he, List.nodup_append] at hnd
    obtain ⟨n1, n2, n3⟩ := hnd
    rw [List.nodup_cons] at n2
    rcases List.mem_append.1 c with c | c
    · exact n3 w c w (by simp) rfl
    · exact n2.1 c
  have nM : ∀ {κ : Type} {Y : Ky κ} {mk : Option Nat → Value} {M n' : Nat} {o : κ → Option Nat}, MAt Y mk W M n' o → ∀ j, ¬ DropS K (2 * i) (q1 ++ q2) M j := fun hM j c => by
    rcases c with ⟨c, _⟩ | ⟨c, _⟩
    · exact hM.ne (h.qa k K hk 0 (by decide)).f c
    · exact hM.ne (nq _ c).c0 rfl
  have nT : ∀ j, ¬ DropS K (2 * i) (q1 ++ q2) T j := fun j c => by
    rcases c with ⟨c, _⟩ | ⟨c, _⟩
    · exact hKT c.symm
    · exact h.xT (nq _ c) rfl
  have nC : ∀ y c', WtAt W y c' → ∀ j, j < 3 → ¬ DropS K (2 * i) (q1 ++ q2) y j := fun y c' hy j hj c => by
    rcases c with ⟨c, _⟩ | ⟨_, c⟩
    · exact h.kx hk hy c.symm
    · omega
  have nw : ∀ j, ¬ DropS K (2 * i) (q1 ++ q2) w j := fun j c => by
    rcases c with ⟨c, _⟩ | ⟨c, _⟩
    · exact h.kx hk hx c.symm
    · exact hwn c
  have hmem : ∀ j k' y, y ∈ updQ s.q i k (q1 ++ q2) j k' → y ∈ s.q j k' := fun j k' y hy => by
    by_cases c : j = i ∧ k' = k
    · obtain ⟨rfl, rfl⟩ := c
      rw [updQ_same] at hy
      exact sub y hy
    · rw [updQ_other _ _ c] at hy; exact hy
  refine ⟨{ h with
    t0 := hc.cell _ _ _ (nT 0) h.t0
    t1 := hc.cell _ _ _ (nT 1) h.t1
    t2 := hc.cell _ _ _ (nT 2) h.t2
    m0 := h.m0.of_block (hc.block ml h.m0.lt (nM h.m0))
    m1 := h.m1.of_block (hc.block mh h.m1.lt (nM h.m1))
    m2 := h.m2.of_block (hc.block mw h.m2.lt (nM h.m2))
    md := fun o m e => (h.md o m e).of_block (hc.block m (h.md o m e).lt (nM (h.md o m e)))
    qa := fun k' K' e j hj => by
      show QAt X K' (2 * j) (updQ s.q i k (q1 ++ q2) j k')
      by_cases c : j = i ∧ k' = k
      · obtain ⟨rfl, rfl⟩ := c
        have e : s.lk k' = some K' := e
        rw [hk] at e
        injection e with e
        subst e
        rw [updQ_same]
        exact hq
      · rw [updQ_other _ _ c]
        have nS : ∀ y, y ∈ s.q j k' → ∀ d, ¬ DropS K (2 * i) (q1 ++ q2) y d := fun y hy d c2 => by
          rcases c2 with ⟨c2, _⟩ | ⟨c2, _⟩
          · exact h.kx hk (h.wc j k' y hj hy) c2.symm
          · exact c (h.qd j i k' k y hj hi hy (sub y c2))
        have nK : ∀ d, d < 2 → ¬ DropS K (2 * i) (q1 ++ q2) K' (2 * j + d) := fun d hd c2 => by
          rcases c2 with ⟨c2, c3⟩ | ⟨c2, _⟩
          · have : k' = k := h.li k' k K (c2 ▸ e) hk
            exact c ⟨by omega, this⟩
          · exact h.kx e (nq _ c2) rfl
        exact (h.qa k' K' e j hj).keep hc ⟨nK 0 (by decide), nK 1 (by decide)⟩ (fun y hy => ⟨nS y hy 3, nS y hy 4⟩)
    qn := fun k' e j => by
      show updQ s.q i k (q1 ++ q2) j k' = []
      have e : s.lk k' = none := e
      have : ¬ (j = i ∧ k' = k) := fun c => by rw [c.2, hk] at e; cases e
      rw [updQ_other _ _ this]
      exact h.qn k' e j
    wc := fun j k' y hj hy => (h.wc j k' y hj (hmem j k' y hy)).keep hc (nC y _ (h.wc j k' y hj (hmem j k' y hy)))
    qd := fun a b k1 k2 y ha hb h1 h2 => h.qd a b k1 k2 y ha hb (hmem a k1 y h1) (hmem b k2 y h2)
    bw := fun j k' y hj hy => h.bw j k' y hj (hmem j k' y hy)
    ps := (h.ps.cf hc (fun b c e j c2 => by
      rcases c2 with ⟨c2, _⟩ | ⟨c2, _⟩
      · exact h.ps.pk b c k K e hk c2
      · exact h.ps.px b c i k b e hi (sub b c2) rfl)).setQ fun b c j k' y e hj hy => h.ps.px b c j k' y e hj (hmem j k' y hy) }, ⟨hx.keep hc (fun j _ => nw j), ?_, ?_, fun j => (hc.frz w j hx.lt ⟨0, nw 0⟩).trans (hQ.fq w hw j)⟩⟩
  · obtain ⟨j, hj, e⟩ := List.getElem_of_mem hw
    exact ⟨_, hc.cell _ _ _ (nw 3) (hQ.a j w (by rw [List.getElem?_eq_getElem hj, e]))⟩
  · obtain ⟨j, hj, e⟩ := List.getElem_of_mem hw
    exact ⟨_, hc.cell _ _ _ (nw 4) (hQ.b j w (by rw [List.getElem?_eq_getElem hj, e]))⟩
/-- One that left is in no queue. -/
theorem LkAt.left (h : LkAt B W T ml mh mw n s) {i : Nat} {k : ByteArray} {K w : Nat} {q1 q2 : List Nat} (hi : i < 3) (hk : s.lk k = some K) (he : s.q i k = q1 ++ w :: q2) : ∀ j k', j < 3 → w ∉ updQ s.q i k (q1 ++ q2) j k' := fun j k' hj c => by
  have hw : w ∈ s.q i k := by rw [he]; simp
  by_cases e : j = i ∧ k' = k
  · obtain ⟨rfl, rfl⟩ := e
    rw [updQ_same] at c
    have hnd := (h.qa k' K hk j hi).nd
    rw [he, List.nodup_append] at hnd
    obtain ⟨n1, n2, n3⟩ := hnd
    rw [List.nodup_cons] at n2
    rcases List.mem_append.1 c with c | c
    · exact n3 w c w (by simp) rfl
    · exact n2.1 c
  · rw [updQ_other _ _ e] at c
    exact e (h.qd j i k' k w hj hi c hw)
theorem LkAt.drop_below (h : LkAt B W T ml mh mw n s) {i : Nat} {k : ByteArray} {K w : Nat} {q1 q2 : List Nat} (hi : i < 3) (hk : s.lk k = some K) (he : s.q i k = q1 ++ w :: q2) (hc : Cf W X (DropS K (2 * i) (q1 ++ q2))) : Below B W X :=
  cf_below hc (fun b j c => by
    rcases c with ⟨c, _⟩ | ⟨c, _⟩
    · rw [c]; exact h.bk k K hk
    · refine h.bw i k b hi ?_
      rw [he]
      rcases List.mem_append.1 c with c | c
      · exact List.mem_append_left _ c
      · exact List.mem_append_right _ (List.mem_cons_of_mem _ c)) h.lts
/-- What leave leaves, of one that stands behind the others. -/
noncomputable def leftS (s : Lk) (k : ByteArray) (q1 q2 : List Nat) (o : Int) : Lk := { s with q := updQ s.q 2 k (q1 ++ q2), wt := updM s.wt o none }
set_option maxRecDepth 100000 in
set_option maxHeartbeats 2000000 in
theorem leave_any (h : LkAt B W T ml mh mw n s) {k : ByteArray} {K w : Nat} {q1 q2 : List Nat} (hk : s.lk k = some K) (he : s.q 2 k = q1 ++ w :: q2) (hck : (s.con w).k = k) (hh : s.hd (s.con w).ow k = none) (hks : k.size ≤ maxLen) (hwf : (Lit.int .i64 (s.con w).ow).wf = true) :
    Calls Try.prog 35 #[.pointer (some ⟨T, 0, none⟩), .pointer (some ⟨w, 0, none⟩)] W fun e W' => e = .returned (.tuple #[]) ∧ LkAt B W' T ml mh mw (n + 1) (leftS s k q1 q2 (s.con w).ow) ∧ Fw W' w (s.con w) ∧ (∀ j k', j < 3 → w ∉ (leftS s k q1 q2 (s.con w).ow).q j k') ∧ Below B W W' := by
  have hw : w ∈ s.q 2 k := by rw [he]; simp
  have KL := Lib.hid (line_others h (h.wc 2 k w (by decide) hw) (by rw [hck]; exact hk) (by rw [hck]; exact hh) (by rw [hck]; exact hks) hwf)
  have KD := Lib.hid (fun X (hX : LkAt B X T ml mh mw n s) => drop_any (q1 := q1) (q2 := q2) (w := w) (he ▸ hX.qa k K hk 2 (by decide) : QAt X K (2 * 2) (q1 ++ w :: q2)))
  have HH := Lib.hid h
  have HK := Lib.hid hk
  have HE := Lib.hid he
  have HL := Lib.hid (h.left (i := 2) (by decide) hk he)
  clear hw h hk he hck hh hks
  go_enter Try.func35, Try.ntmps35
  go_wp2_with fail
  refine KL.out.mono ?_
  rintro e w1 ⟨rfl, hb1⟩
  have H1 := Lib.hid (HH.out.below hb1)
  have KD1 := Lib.hid (KD.out w1 H1.out)
  have HB1 := Lib.hid (hb1.mono HH.out.lts)
  clear KL hb1 KD
  go_wp2_with fail
  refine KD1.out.mono ?_
  rintro e w2 ⟨rfl, hq, hc⟩
  obtain ⟨h2, f2⟩ := H1.out.dropQ (i := 2) (by decide) HK.out HE.out hq hc
  have hb2 := HB1.out.trans (H1.out.drop_below (i := 2) (by decide) HK.out HE.out hc)
  have h3 := h2.below (Below.refl _ _).drew
  have f3 := f2.below (Below.refl _ _).drew
  have t2 := h3.t2
  have c2 := f3.c.c2
  obtain ⟨X, hst, hmX, hgX, hsX⟩ := h3.m2.drop waitsMap (s.con w).ow hwf 0
  have hst : ∀ ty, (Builtin.delete_ #[58, 3] ty #[.map (some mw), .int .i64 (s.con w).ow]).run Try.prog w2.drew = .ok (.tuple #[]) X := fun ty => hst
  have H4 := Lib.hid (h3.setWait (o := (s.con w).ow) (z := none) (hmX.mono (Nat.le_succ n)) hgX)
  have F4 := Lib.hid (f3.grown h3.m2.no_cell hgX)
  have HB4 := Lib.hid (hb2.drew.trans (h3.grownB h3.bt.2.2.2 hgX))
  clear h2 f2 hb2 h3 f3 hmX hgX hsX KD1 hq hc
  go_upto_region 1 with fail
  refine wp_region_still_tail 8 (by kernel_rfl) (by kernel_rfl) ?_
  simp only [List.take_succ_cons, List.take_zero, List.drop_succ_cons, List.drop_zero]
  generalize hX1 : w2.drew = W3 at *
  change wpStill _ _ (w2.drew) (fun _ => wpList _ _ _ _ _ (w2.drew)) _ _
  rw [hX1]
  repeat still_step
  refine wpStill_nil ?_
  go_wp2
  refine bodyPost_end (v := .tuple #[]) (results_none rfl _ _ _) ?_ ?_
  · rfl
  · exact ⟨rfl, H4.out, F4.out, HL.out, HB4.out⟩
end
end Go.Proofs.Ytjojempjmpaaaaa
