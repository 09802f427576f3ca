/-
  A TABLE OF LOCKS: lockOf.
-/
import Derived.Test.YtgabdlnbencglaaLkMake
import Derived.Deep.RegionLaw
namespace Go.Proofs.Ytgabdlnbencglaa
open Go.RowKit
theorem updM_id {κ : Type} {f : κ → Option Nat} {i : κ} {z : Option Nat} (h : f i = z) : updM f i z = f := by
  funext k
  by_cases e : k = i
  · rw [e, updM_same, h]
  · rw [updM_other _ _ e]
theorem updM_cases {κ : Type} {f : κ → Option Nat} {i k : κ} {z : Option Nat} {y : Nat} (h : updM f i z k = some y) : (k = i ∧ z = some y) ∨ (k ≠ i ∧ f k = some y) := by
  by_cases e : k = i
  · rw [e, updM_same] at h; exact .inl ⟨e, h⟩
  · rw [updM_other _ _ e] at h; exact .inr ⟨e, h⟩
theorem LkAt.mono {B : Nat} {W : World} {T ml mh mw n n' : Nat} {s : Lk} (h : LkAt B W T ml mh mw n s) (hn : n ≤ n') : LkAt B W T ml mh mw n' s :=
  { h with m0 := h.m0.mono hn, m1 := h.m1.mono hn, m2 := h.m2.mono hn, md := fun o m e => (h.md o m e).mono hn }
section
variable {B : Nat} {W X : World} {T ml mh mw n : Nat} {s : Lk}
theorem LkAt.Tne (h : LkAt B W T ml mh mw n s) : T ≠ ml ∧ T ≠ mh ∧ T ≠ mw ∧ ∀ o m, s.hm o = some m → T ≠ m :=
  ⟨(h.m0.ne h.t0).symm, (h.m1.ne h.t0).symm, (h.m2.ne h.t0).symm, fun o m e => ((h.md o m e).ne h.t0).symm⟩
/-- A new lock. -/
theorem LkAt.addLock (h : LkAt B W T ml mh mw n s) {key : ByteArray} {K : Nat} (h0 : s.lk key = none) (hq : ∀ i, i < 3 → QAt W K (2 * i) []) (hK : ∀ k K', s.lk k = some K' → K' ≠ K) (hP : ∀ b c, s.pas b = some c → b ≠ K) (hB : B ≤ K) (hm : MAt sKy pV X ml (n + 1) (updM s.lk key (some K))) (hg : W.grownBy X (some ml)) :
    LkAt B X T ml mh mw (n + 1) { s with lk := updM s.lk key (some K) } := by
  have hc := Cf.grown hg
  obtain ⟨n1, n2, n3, n4⟩ := h.Tne
  have hne : ∀ o m, s.hm o = some m → m ≠ ml := fun o m e => (h.hne o m e).1
  have kml : ∀ k K', s.lk k = some K' → K' ≠ ml := fun k K' e => (h.m0.ne (h.qa k K' e 0 (by decide)).f).symm
  have xml : ∀ i k x, i < 3 → x ∈ s.q i k → x ≠ ml := fun i k x hi hx => (h.m0.ne (h.wc i k x hi hx).c0).symm
  have Kml : K ≠ ml := (h.m0.ne (hq 0 (by decide)).f).symm
  exact {
    t0 := hc.cell _ _ _ n1 h.t0
    t1 := hc.cell _ _ _ n1 h.t1
    t2 := hc.cell _ _ _ n1 h.t2
    m0 := hm
    m1 := (h.m1.of_block (hc.block mh h.m1.lt (fun _ => h.mn.1.symm))).mono (Nat.le_succ n)
    m2 := (h.m2.of_block (hc.block mw h.m2.lt (fun _ => h.mn.2.1.symm))).mono (Nat.le_succ n)
    md := fun o m e => ((h.md o m e).of_block (hc.block m (h.md o m e).lt (fun _ => hne o m e))).mono (Nat.le_succ n)
    qa := fun k K' e i hi => by
      rcases updM_cases e with ⟨rfl, e2⟩ | ⟨_, e2⟩
      · injection e2 with e2
        subst e2
        show QAt X K (2 * i) (s.q i k)
        rw [h.qn k h0 i]
        exact (hq i hi).keep hc ⟨Kml, Kml⟩ (fun x hx => by cases hx)
      · exact (h.qa k K' e2 i hi).keep hc ⟨kml k K' e2, kml k K' e2⟩ (fun x hx => ⟨xml i k x hi hx, xml i k x hi hx⟩)
    qn := fun k e i => by
      have e : updM s.lk key (some K) k = none := e
      by_cases e1 : k = key
      · rw [e1, updM_same] at e; cases e
      · rw [updM_other _ _ e1] at e; exact h.qn k e i
    hn := h.hn
    wc := fun i k x hi hx => (h.wc i k x hi hx).keep hc (fun _ _ => xml i k x hi hx)
    li := fun k k' K' e e' => by
      rcases updM_cases e with ⟨c1, c2⟩ | ⟨_, c2⟩ <;> rcases updM_cases e' with ⟨d1, d2⟩ | ⟨_, d2⟩
      · rw [c1, d1]
      · injection c2 with c2
        exact absurd c2.symm (hK k' K' d2)
      · injection d2 with d2
        exact absurd d2.symm (hK k K' c2)
      · exact h.li k k' K' c2 d2
    hi := h.hi
    qd := h.qd
    mn := h.mn
    hne := h.hne
    bt := h.bt
    bk := fun k K' e => by
      rcases updM_cases e with ⟨_, c2⟩ | ⟨_, c2⟩
      · injection c2 with c2
        rw [← c2]; exact hB
      · exact h.bk k K' c2
    bm := h.bm
    bw := h.bw
    ps := (h.ps.grown h.m0.no_cell hg).setK fun b c k K' e e2 => by
      rcases updM_cases e2 with ⟨_, c2⟩ | ⟨_, c2⟩
      · injection c2 with c2
        rw [← c2]; exact hP b c e
      · exact h.ps.pk b c k K' e c2 }
theorem LkAt.lts (h : LkAt B W T ml mh mw n s) : B ≤ W.heap.size := Nat.le_trans h.bt.1 (Nat.le_of_lt (block_lt (p := ⟨T, 0, none⟩) h.t0))
/-- What lockOf leaves. -/
def OfP (B : Nat) (T ml mh mw n : Nat) (s : Lk) (key : ByteArray) (W : World) (e : Ending) (W' : World) : Prop :=
  ∃ K, e = .returned (.pointer (some ⟨K, 0, none⟩)) ∧ LkAt B W' T ml mh mw (n + 1) { s with lk := updM s.lk key (some K) } ∧ Below B W W' ∧ W.heap.size ≤ W'.heap.size ∧ ∀ b, b < W.heap.size → b ≠ ml → W'.heap[b]? = W.heap[b]?
set_option maxRecDepth 100000 in
set_option maxHeartbeats 1000000 in
theorem lockOf_any (h : LkAt B W T ml mh mw n s) (key : ByteArray) (hk : key.size ≤ maxLen) (hk2 : key.size ≤ 281474976710656) (hn : n < maxLen) :
    Calls Try.prog 28 #[.pointer (some ⟨T, 0, none⟩), .string key] W (OfP B T ml mh mw n s key W) := by
  have t0 := h.t0
  have lk := h.m0.look lockMap key hk
  cases e : s.lk key with
  | some K =>
    rw [e] at lk
    have lk : (Instr.lookup 56 (.map (some ml)) (.string key) false).run Try.prog W = .ok (.pointer (some ⟨K, 0, none⟩)) W := lk
    have HP : Hid (OfP B T ml mh mw n s key W (.returned (.pointer (some ⟨K, 0, none⟩))) W) := ⟨K, rfl, by rw [updM_id e]; exact h.mono (Nat.le_succ n), Below.refl _ _, Nat.le_refl _, fun _ _ _ => rfl⟩
    clear h e
    go_enter Try.func28, Try.ntmps28
    go_wp2
    go_ret
    exact HP.out
  | none =>
    rw [e] at lk
    have lk : (Instr.lookup 56 (.map (some ml)) (.string key) false).run Try.prog W = .ok (.pointer none) W := lk
    have hba : Below W.heap.size W (W.alloc (.cells #[.pointer none, .pointer none, .pointer none, .pointer none, .pointer none, .pointer none] 105)) := (Below.refl _ _).alloc (Nat.le_refl _) _
    have hq : ∀ i, i < 3 → QAt (W.alloc (.cells #[.pointer none, .pointer none, .pointer none, .pointer none, .pointer none, .pointer none] 105)) W.heap.size (2 * i) [] := fun i hi => by
      refine ⟨?_, ?_, fun _ _ e => by simp at e, fun _ _ e => by simp at e, List.nodup_nil, by simp, fun _ => World.frozen?_alloc_at _ _ _ _ rfl, fun _ e => by cases e⟩
      · match i, hi with
        | 0, _ => exact new_cell rfl rfl
        | 1, _ => exact new_cell rfl rfl
        | 2, _ => exact new_cell rfl rfl
      · match i, hi with
        | 0, _ => exact new_cell rfl rfl
        | 1, _ => exact new_cell rfl rfl
        | 2, _ => exact new_cell rfl rfl
    have hlts := h.lts
    have hfr : ∀ k K', s.lk k = some K' → K' ≠ W.heap.size := fun k K' e => by
      have := (h.qa k K' e 0 (by decide)).lt
      omega
    have HQ := Lib.hid hq
    have HH := Lib.hid (h.below hba)
    have HB := Lib.hid (hba.mono hlts)
    have HF := Lib.hid hfr
    have HPP := Lib.hid (fun b c (e : s.pas b = some c) => (show b ≠ W.heap.size from by have := h.ps.lt e; omega))
    have KC := Lib.hid (fun W => clone_str key W hk2)
    have hsz : W.heap.size ≤ (W.alloc (.cells #[.pointer none, .pointer none, .pointer none, .pointer none, .pointer none, .pointer none] 105)).heap.size := hba.size
    have HE := Lib.hid e
    have HBK := Lib.hid (fun b (hb : b < W.heap.size) => hba.block b hb)
    clear h hba hq hfr e
    go_enter Try.func28, Try.ntmps28
    go_upto_region 4 with fail
    generalize W.alloc (.cells #[.pointer none, .pointer none, .pointer none, .pointer none, .pointer none, .pointer none] 105) = Y at *
    generalize hKd : W.heap.size = K at *
    have HD := Lib.hid (HH.out.below (Below.refl _ _).drew)
    have d0 := HD.out.t0
    have hbd : Below Y.heap.size Y Y.drew := (Below.refl _ _).drew
    clear t0 lk
    go_region_law ((go_simp; go_at_call 53; (with_reducible refine (KC.out _).mono ?_); rintro x w2 ⟨rfl, hb2⟩; have hb3 := hbd.trans (hb2.mono hbd.size); have H2 := HH.out.below hb3; have e0 := H2.t0; obtain ⟨X, hst, hmX, hgX, hszX⟩ := H2.m0.store lockMap key hk K hn; have hst : (Instr.mapUpdate 56 (.map (some ml)) (.string key) (.pointer (some ⟨K, 0, none⟩))).run Try.prog w2 = .ok () X := hst; have HX := Lib.hid (H2.addLock (key := key) HE.out (fun i hi => (HQ.out i hi).below hb3) HF.out HPP.out (by omega) hmX hgX); have HBX := Lib.hid (((HB.out.trans (hb3.mono HH.out.lts)).grown hgX H2.lts (fun g hg => by (injection hg with hg; rw [← hg]; exact H2.bt.2.1)))); have hs3 := hb3.size; have hfr2 := Lib.hid (fun b (hb : b < Y.heap.size) (hn : b ≠ ml) => (hgX.block b (Nat.lt_of_lt_of_le hb hb3.size) (fun c => hn (by injection c))).trans (hb3.block b hb)); clear hb2 H2 hmX hgX; go_simp))
    all_goals
      go_wp2
      go_ret
      exact ⟨K, rfl, HX.out, HBX.out, by omega, fun b hb hn => (hfr2.out b (by omega) hn).trans (HBK.out b (by omega))⟩
end
end Go.Proofs.Ytgabdlnbencglaa
