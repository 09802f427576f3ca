/-
  A TABLE OF LOCKS: lockOf.
  A TABLE OF LOCKS: what a write leaves: a map that is made, what is held, who waits, a queue.
  A TABLE OF LOCKS: hold, of one that holds the key not yet.
  A TABLE OF LOCKS: the part of a line in which a waiter stands that holds nothing of the key.
  A TABLE OF LOCKS: Ask, of one that holds nothing of the key: it comes to hold it; it must wait.
-/
import Derived.Test.YtjojempjmpaaaaaLkm2
import Derived.Deep.RegionLaw
namespace Go.Proofs.Ytjojempjmpaaaaa
open Go.RowKit
theorem updM_id {κ : Type} {f : κ → Option Nat} {i : κ} {z : Option Nat} (h : f i = z) : updM f i z = f := by
  funext k
  by_cases e : k = i
  · rw [e, updM_same, h]
  · rw [updM_other _ _ e]
theorem updM_cases {κ : Type} {f : κ → Option Nat} {i k : κ} {z : Option Nat} {y : Nat} (h : updM f i z k = some y) : (k = i ∧ z = some y) ∨ (k ≠ i ∧ f k = some y) := by
  by_cases e : k = i
  · rw [e, updM_same] at h; exact .inl ⟨e, h⟩
  · rw [updM_other _ _ e] at h; exact .inr ⟨e, h⟩
theorem LkAt.mono {B : Nat} {W : World} {T ml mh mw n n' : Nat} {s : Lk} (h : LkAt B W T ml mh mw n s) (hn : n ≤ n') : LkAt B W T ml mh mw n' s :=
  { h with m0 := h.m0.mono hn, m1 := h.m1.mono hn, m2 := h.m2.mono hn, md := fun o m e => (h.md o m e).mono hn }
section
variable {B : Nat} {W X : World} {T ml mh mw n : Nat} {s : Lk}
theorem LkAt.Tne (h : LkAt B W T ml mh mw n s) : T ≠ ml ∧ T ≠ mh ∧ T ≠ mw ∧ ∀ o m, s.hm o = some m → T ≠ m :=
  ⟨(h.m0.ne h.t0).symm, (h.m1.ne h.t0).symm, (h.m2.ne h.t0).symm, fun o m e => ((h.md o m e).ne h.t0).symm⟩
/-- A new lock. -/
theorem LkAt.addLock (h : LkAt B W T ml mh mw n s) {key : ByteArray} {K : Nat} (h0 : s.lk key = none) (hq : ∀ i, i < 3 → QAt W K (2 * i) []) (hK : ∀ k K', s.lk k = some K' → K' ≠ K) (hP : ∀ b c, s.pas b = some c → b ≠ K) (hB : B ≤ K) (hm : MAt sKy pV X ml (n + 1) (updM s.lk key (some K))) (hg : W.grownBy X (some ml)) :
    LkAt B X T ml mh mw (n + 1) { s with lk := updM s.lk key (some K) } := by
  have hc := Cf.grown hg
  obtain ⟨n1, n2, n3, n4⟩ := h.Tne
  have hne : ∀ o m, s.hm o = some m → m ≠ ml := fun o m e => (h.hne o m e).1
  have kml : ∀ k K', s.lk k = some K' → K' ≠ ml := fun k K' e => (h.m0.ne (h.qa k K' e 0 (by decide)).f).symm
  have xml : ∀ i k x, i < 3 → x ∈ s.q i k → x ≠ ml := fun i k x hi hx => (h.m0.ne (h.wc i k x hi hx).c0).symm
  have Kml : K ≠ ml := (h.m0.ne (hq 0 (by decide)).f).symm
  exact {
    t0 := hc.cell _ _ _ n1 h.t0
    t1 := hc.cell _ _ _ n1 h.t1
    t2 := hc.cell _ _ _ n1 h.t2
    m0 := hm
    m1 := (h.m1.of_block (hc.block mh h.m1.lt (fun _ => h.mn.1.symm))).mono (Nat.le_succ n)
    m2 := (h.m2.of_block (hc.block mw h.m2.lt (fun _ => h.mn.2.1.symm))).mono (Nat.le_succ n)
    md := fun o m e => ((h.md o m e).of_block (hc.block m (h.md o m e).lt (fun _ => hne o m e))).mono (Nat.le_succ n)
    qa := fun k K' e i hi => by
      rcases updM_cases e with ⟨rfl, e2⟩ | ⟨_, e2⟩
      · injection e2 with e2
        subst e2
        show QAt X K (2 * i) (s.q i k)
        rw [h.qn k h0 i]
        exact (hq i hi).keep hc ⟨Kml, Kml⟩ (fun x hx => by cases hx)
      · exact (h.qa k K' e2 i hi).keep hc ⟨kml k K' e2, kml k K' e2⟩ (fun x hx => ⟨xml i k x hi hx, xml i k x hi hx⟩)
    qn := fun k e i => by
      have e : updM s.lk key (some K) k = none := e
      by_cases e1 : k = key
      · rw [e1, updM_same] at e; cases e
      · rw [updM_other _ _ e1] at e; exact h.qn k e i
    hn := h.hn
    wc := fun i k x hi hx => (h.wc i k x hi hx).keep hc (fun _ _ => xml i k x hi hx)
    li := fun k k' K' e e' => by
      rcases updM_cases e with ⟨c1, c2⟩ | ⟨_, c2⟩ <;> rcases updM_cases e' with ⟨d1, d2⟩ | ⟨_, d2⟩
      · rw [c1, d1]
      · injection c2 with c2
        exact absurd c2.symm (hK k' K' d2)
      · injection d2 with d2
        exact absurd d2.symm (hK k K' c2)
      · exact h.li k k' K' c2 d2
    hi := h.hi
    qd := h.qd
    mn := h.mn
    hne := h.hne
    bt := h.bt
    bk := fun k K' e => by
      rcases updM_cases e with ⟨_, c2⟩ | ⟨_, c2⟩
      · injection c2 with c2
        rw [← c2]; exact hB
      · exact h.bk k K' c2
    bm := h.bm
    bw := h.bw
    ps := (h.ps.grown h.m0.no_cell hg).setK fun b c k K' e e2 => by
      rcases updM_cases e2 with ⟨_, c2⟩ | ⟨_, c2⟩
      · injection c2 with c2
        rw [← c2]; exact hP b c e
      · exact h.ps.pk b c k K' e c2 }
theorem LkAt.lts (h : LkAt B W T ml mh mw n s) : B ≤ W.heap.size := Nat.le_trans h.bt.1 (Nat.le_of_lt (block_lt (p := ⟨T, 0, none⟩) h.t0))
/-- What lockOf leaves. -/
def OfP (B : Nat) (T ml mh mw n : Nat) (s : Lk) (key : ByteArray) (W : World) (e : Ending) (W' : World) : Prop :=
  ∃ K, e = .returned (.pointer (some ⟨K, 0, none⟩)) ∧ LkAt B W' T ml mh mw (n + 1) { s with lk := updM s.lk key (some K) } ∧ Below B W W' ∧ W.heap.size ≤ W'.heap.size ∧ ∀ b, b < W.heap.size → b ≠ ml → W'.heap[b]? = W.heap[b]?
set_option maxRecDepth 100000 in
set_option maxHeartbeats 1000000 in
theorem lockOf_any (h : LkAt B W T ml mh mw n s) (key : ByteArray) (hk : key.size ≤ maxLen) (hk2 : key.size ≤ 281474976710656) (hn : n < maxLen) :
    Calls Try.prog 28 #[.pointer (some ⟨T, 0, none⟩), .string key] W (OfP B T ml mh mw n s key W) := by
  have t0 := h.t0
  have lk := h.m0.look lockMap key hk
  cases e : s.lk key with
  | some K =>
    rw [e] at lk
    have lk : (Instr.lookup 56 (.map (some ml)) (.string key) false).run Try.prog W = .ok (.pointer (some ⟨K, 0, none⟩)) W := lk
    have HP : Hid (OfP B T ml mh mw n s key W (.returned (.pointer (some ⟨K, 0, none⟩))) W) := ⟨K, rfl, by rw [updM_id e]; exact h.mono (Nat.le_succ n), Below.refl _ _, Nat.le_refl _, fun _ _ _ => rfl⟩
    clear h e
    go_enter Try.func28, Try.ntmps28
    go_wp2
    go_ret
    exact HP.out
  | none =>
    rw [e] at lk
    have lk : (Instr.lookup 56 (.map (some ml)) (.string key) false).run Try.prog W = .ok (.pointer none) W := lk
    have hba : Below W.heap.size W (W.alloc (.cells #[.pointer none, .pointer none, .pointer none, .pointer none, .pointer none, .pointer none] 105)) := (Below.refl _ _).alloc (Nat.le_refl _) _
    have hq : ∀ i, i < 3 → QAt (W.alloc (.cells #[.pointer none, .pointer none, .pointer none, .pointer none, .pointer none, .pointer none] 105)) W.heap.size (2 * i) [] := fun i hi => by
      refine ⟨?_, ?_, fun _ _ e => by simp at e, fun _ _ e => by simp at e, List.nodup_nil, by simp, fun _ => World.frozen?_alloc_at _ _ _ _ rfl, fun _ e => by cases e⟩
      · match i, hi with
        | 0, _ => exact new_cell rfl rfl
        | 1, _ => exact new_cell rfl rfl
        | 2, _ => exact new_cell rfl rfl
      · match i, hi with
        | 0, _ => exact new_cell rfl rfl
        | 1, _ => exact new_cell rfl rfl
        | 2, _ => exact new_cell rfl rfl
    have hlts := h.lts
    have hfr : ∀ k K', s.lk k = some K' → K' ≠ W.heap.size := fun k K' e => by
      have := (h.qa k K' e 0 (by decide)).lt
      omega
    have HQ := Lib.hid hq
    have HH := Lib.hid (h.below hba)
    have HB := Lib.hid (hba.mono hlts)
    have HF := Lib.hid hfr
    have HPP := Lib.hid (fun b c (e : s.pas b = some c) => (show b ≠ W.heap.size from by have := h.ps.lt e; omega))
    have KC := Lib.hid (fun W => clone_str key W hk2)
    have hsz : W.heap.size ≤ (W.alloc (.cells #[.pointer none, .pointer none, .pointer none, .pointer none, .pointer none, .pointer none] 105)).heap.size := hba.size
    have HE := Lib.hid e
    have HBK := Lib.hid (fun b (hb : b < W.heap.size) => hba.block b hb)
    clear h hba hq hfr e
    go_enter Try.func28, Try.ntmps28
    go_upto_region 4 with fail
    generalize W.alloc (.cells #[.pointer none, .pointer none, .pointer none, .pointer none, .pointer none, .pointer none] 105) = Y at *
    generalize hKd : W.heap.size = K at *
    have HD := Lib.hid (HH.out.below (Below.refl _ _).drew)
    have d0 := HD.out.t0
    have hbd : Below Y.heap.size Y Y.drew := (Below.refl _ _).drew
    clear t0 lk
    go_region_law ((go_simp; go_at_call 53; (with_reducible refine (KC.out _).mono ?_); rintro x w2 ⟨rfl, hb2⟩; have hb3 := hbd.trans (hb2.mono hbd.size); have H2 := HH.out.below hb3; have e0 := H2.t0; obtain ⟨X, hst, hmX, hgX, hszX⟩ := H2.m0.store lockMap key hk K hn; have hst : (Instr.mapUpdate 56 (.map (some ml)) (.string key) (.pointer (some ⟨K, 0, none⟩))).run Try.prog w2 = .ok () X := hst; have HX := Lib.hid (H2.addLock (key := key) HE.out (fun i hi => (HQ.out i hi).below hb3) HF.out HPP.out (by omega) hmX hgX); have HBX := Lib.hid (((HB.out.trans (hb3.mono HH.out.lts)).grown hgX H2.lts (fun g hg => by (injection hg with hg; rw [← hg]; exact H2.bt.2.1)))); have hs3 := hb3.size; have hfr2 := Lib.hid (fun b (hb : b < Y.heap.size) (hn : b ≠ ml) => (hgX.block b (Nat.lt_of_lt_of_le hb hb3.size) (fun c => hn (by injection c))).trans (hb3.block b hb)); clear hb2 H2 hmX hgX; go_simp))
    all_goals
      go_wp2
      go_ret
      exact ⟨K, rfl, HX.out, HBX.out, by omega, fun b hb hn => (hfr2.out b (by omega) hn).trans (HBK.out b (by omega))⟩
end
end Go.Proofs.Ytjojempjmpaaaaa

namespace Go.Proofs.Ytjojempjmpaaaaa
open Go.RowKit
section
variable {B : Nat} {W X : World} {T ml mh mw n : Nat} {s : Lk}
/-- A map's write leaves all cells. -/
theorem LkAt.kq (h : LkAt B W T ml mh mw n s) {M : Nat} (hM : ∀ i, W.cell? ⟨M, i, none⟩ = none) (hg : W.grownBy X (some M)) :
    X.cell? ⟨T, 0, none⟩ = some (.map (some ml)) ∧ X.cell? ⟨T, 1, none⟩ = some (.map (some mh)) ∧ X.cell? ⟨T, 2, none⟩ = some (.map (some mw)) ∧ (∀ k K, s.lk k = some K → ∀ i, i < 3 → QAt X K (2 * i) (s.q i k)) ∧ (∀ i k x, i < 3 → x ∈ s.q i k → WtAt X x (s.con x)) ∧ Ps X T s.lk s.q s.pas := by
  have hc := Cf.grown hg
  have ne : ∀ {b i : Nat} {v : Value}, W.cell? ⟨b, i, none⟩ = some v → b ≠ M := fun hb e => by
    rw [e, hM] at hb; cases hb
  exact ⟨hc.cell _ _ _ (ne h.t0) h.t0, hc.cell _ _ _ (ne h.t0) h.t1, hc.cell _ _ _ (ne h.t0) h.t2, fun k K e i hi => (h.qa k K e i hi).keep hc ⟨ne (h.qa k K e i hi).f, ne (h.qa k K e i hi).f⟩ (fun x hx => ⟨ne (h.wc i k x hi hx).c0, ne (h.wc i k x hi hx).c0⟩), fun i k x hi hx => (h.wc i k x hi hx).keep hc (fun _ _ => ne (h.wc i k x hi hx).c0), h.ps.grown hM hg⟩
/-- An owner comes to have a map. -/
theorem LkAt.addMap (h : LkAt B W T ml mh mw n s) {o : Int} {m : Nat} (h0 : s.hm o = none) (hm0 : MAt sKy pV W m 0 (fun _ => none)) (hf : ∀ o' m', s.hm o' = some m' → m' ≠ m) (hne : m ≠ ml ∧ m ≠ mh ∧ m ≠ mw) (hB : B ≤ m) (hm : MAt iKy mV X mh (n + 1) (updM s.hm o (some m))) (hg : W.grownBy X (some mh)) :
    LkAt B X T ml mh mw (n + 1) { s with hm := updM s.hm o (some m) } := by
  obtain ⟨k0, k1, k2, k3, k4, k5⟩ := h.kq h.m1.no_cell hg
  have hb : ∀ b, b < W.heap.size → b ≠ mh → X.heap[b]? = W.heap[b]? := fun b hb hn => hg.block b hb (fun e => hn (by injection e))
  exact { h with
    t0 := k0
    t1 := k1
    t2 := k2
    m0 := (h.m0.of_block (hb ml h.m0.lt h.mn.1)).mono (Nat.le_succ n)
    m1 := hm
    m2 := (h.m2.of_block (hb mw h.m2.lt h.mn.2.2.symm)).mono (Nat.le_succ n)
    md := fun o' m' e => by
      rcases updM_cases e with ⟨rfl, e2⟩ | ⟨_, e2⟩
      · injection e2 with e2
        subst e2
        have e3 : s.hd o' = fun _ => none := by funext k; exact h.hn o' h0 k
        show MAt sKy pV X m (n + 1) (s.hd o')
        rw [e3]
        exact (hm0.of_block (hb m hm0.lt hne.2.1)).mono (Nat.zero_le _)
      · exact ((h.md o' m' e2).of_block (hb m' (h.md o' m' e2).lt (h.hne o' m' e2).2.1)).mono (Nat.le_succ n)
    qa := k3
    wc := k4
    ps := k5
    hn := fun o' e k => by
      have e : updM s.hm o (some m) o' = none := e
      by_cases e1 : o' = o
      · rw [e1, updM_same] at e; cases e
      · rw [updM_other _ _ e1] at e; exact h.hn o' e k
    hi := fun o1 o2 m' e e' => by
      rcases updM_cases e with ⟨c1, c2⟩ | ⟨_, c2⟩ <;> rcases updM_cases e' with ⟨d1, d2⟩ | ⟨_, d2⟩
      · rw [c1, d1]
      · injection c2 with c2
        exact absurd c2.symm (hf o2 m' d2)
      · injection d2 with d2
        exact absurd d2.symm (hf o1 m' c2)
      · exact h.hi o1 o2 m' c2 d2
    hne := fun o' m' e => by
      rcases updM_cases e with ⟨_, c2⟩ | ⟨_, c2⟩
      · injection c2 with c2
        rw [← c2]; exact hne
      · exact h.hne o' m' c2
    bm := fun o' m' e => by
      rcases updM_cases e with ⟨_, c2⟩ | ⟨_, c2⟩
      · injection c2 with c2
        rw [← c2]; exact hB
      · exact h.bm o' m' c2 }
noncomputable def updH (f : Int → ByteArray → Option Nat) (o : Int) (k : ByteArray) (z : Option Nat) : Int → ByteArray → Option Nat := fun o' => if o' = o then updM (f o) k z else f o'
/-- What an owner holds. -/
theorem LkAt.setHeld (h : LkAt B W T ml mh mw n s) {o : Int} {k : ByteArray} {z : Option Nat} {m : Nat} (h0 : s.hm o = some m) (hm : MAt sKy pV X m (n + 1) (updM (s.hd o) k z)) (hg : W.grownBy X (some m)) :
    LkAt B X T ml mh mw (n + 1) { s with hd := updH s.hd o k z } := by
  obtain ⟨k0, k1, k2, k3, k4, k5⟩ := h.kq (h.md o m h0).no_cell hg
  obtain ⟨n1, n2, n3⟩ := h.hne o m h0
  have hb : ∀ b, b < W.heap.size → b ≠ m → X.heap[b]? = W.heap[b]? := fun b hb hn => hg.block b hb (fun e => hn (by injection e))
  exact { h with
    t0 := k0
    t1 := k1
    t2 := k2
    m0 := (h.m0.of_block (hb ml h.m0.lt n1.symm)).mono (Nat.le_succ n)
    m1 := (h.m1.of_block (hb mh h.m1.lt n2.symm)).mono (Nat.le_succ n)
    m2 := (h.m2.of_block (hb mw h.m2.lt n3.symm)).mono (Nat.le_succ n)
    md := fun o' m' e => by
      show MAt sKy pV X m' (n + 1) (updH s.hd o k z o')
      unfold updH
      by_cases e1 : o' = o
      · subst e1
        have e : s.hm o' = some m' := e
        rw [h0] at e
        injection e with e
        subst e
        rw [if_pos rfl]
        exact hm
      · rw [if_neg e1]
        exact ((h.md o' m' e).of_block (hb m' (h.md o' m' e).lt (fun c => e1 (h.hi o' o m (c ▸ e) h0)))).mono (Nat.le_succ n)
    qa := k3
    wc := k4
    ps := k5
    hn := fun o' e k' => by
      show updH s.hd o k z o' k' = none
      unfold updH
      by_cases e1 : o' = o
      · subst e1
        have e : s.hm o' = none := e
        rw [h0] at e; cases e
      · rw [if_neg e1]; exact h.hn o' e k' }
/-- Who waits. -/
theorem LkAt.setWait (h : LkAt B W T ml mh mw n s) {o : Int} {z : Option Nat} (hm : MAt iKy pV X mw (n + 1) (updM s.wt o z)) (hg : W.grownBy X (some mw)) :
    LkAt B X T ml mh mw (n + 1) { s with wt := updM s.wt o z } := by
  obtain ⟨k0, k1, k2, k3, k4, k5⟩ := h.kq h.m2.no_cell hg
  have hb : ∀ b, b < W.heap.size → b ≠ mw → X.heap[b]? = W.heap[b]? := fun b hb hn => hg.block b hb (fun e => hn (by injection e))
  exact { h with
    t0 := k0
    t1 := k1
    t2 := k2
    m0 := (h.m0.of_block (hb ml h.m0.lt h.mn.2.1)).mono (Nat.le_succ n)
    m1 := (h.m1.of_block (hb mh h.m1.lt h.mn.2.2)).mono (Nat.le_succ n)
    m2 := hm
    md := fun o' m' e => ((h.md o' m' e).of_block (hb m' (h.md o' m' e).lt (h.hne o' m' e).2.2)).mono (Nat.le_succ n)
    qa := k3
    wc := k4
    ps := k5 }
noncomputable def updQ (f : Nat → ByteArray → List Nat) (i : Nat) (k : ByteArray) (q : List Nat) : Nat → ByteArray → List Nat := by
  classical
  exact fun i' k' => if i' = i ∧ k' = k then q else f i' k'
theorem updQ_same (f : Nat → ByteArray → List Nat) (i : Nat) (k : ByteArray) (q : List Nat) : updQ f i k q i k = q := by unfold updQ; rw [if_pos ⟨rfl, rfl⟩]
theorem updQ_other (f : Nat → ByteArray → List Nat) {i i' : Nat} {k k' : ByteArray} (q : List Nat) (h : ¬ (i' = i ∧ k' = k)) : updQ f i k q i' k' = f i' k' := by unfold updQ; rw [if_neg h]
noncomputable def updC (f : Nat → Wc) (w : Nat) (x : Wc) : Nat → Wc := fun b => if b = w then x else f b
/-- One more stands in a queue. -/
theorem LkAt.putQ (h : LkAt B W T ml mh mw n s) {i : Nat} {k : ByteArray} {K w : Nat} {x : Wc} (hi : i < 3) (hk : s.lk k = some K) (hx : WtAt W w x) (hf : ∀ i k', i < 3 → w ∉ s.q i k') (hp : ∀ b c, s.pas b = some c → b ≠ w) (hB : B ≤ w) (hq : QAt X K (2 * i) (s.q i k ++ [w])) (hc : Cf W X (PutS K (2 * i) w (s.q i k))) :
    LkAt B X T ml mh mw n { s with q := updQ s.q i k (s.q i k ++ [w]), con := updC s.con w x } := by
  have hKx : K ≠ w := h.kx hk hx
  have hKT : K ≠ T := h.kT hk
  have hwT : w ≠ T := h.xT hx
  have hcon : ∀ y, y ≠ w → updC s.con w x y = s.con y := fun y hy => by unfold updC; rw [if_neg hy]
  have hconw : updC s.con w x w = x := by unfold updC; rw [if_pos rfl]
  have nq : ∀ y, y ∈ s.q i k → WtAt W y (s.con y) := fun y hy => h.wc i k y hi hy
  -- no map's block is written
  have nM : ∀ {κ : Type} {Y : Ky κ} {mk : Option Nat → Value} {M n' : Nat} {o : κ → Option Nat}, MAt Y mk W M n' o → ∀ j, ¬ PutS K (2 * i) w (s.q i k) M j := fun hM j c => by
    rcases c with ⟨c, _⟩ | ⟨c, _⟩ | ⟨c, _⟩
    · exact hM.ne (h.qa k K hk 0 (by decide)).f c
    · exact hM.ne hx.c0 c
    · exact hM.ne (nq _ c).c0 rfl
  have nT : ∀ j, ¬ PutS K (2 * i) w (s.q i k) T j := fun j c => by
    rcases c with ⟨c, _⟩ | ⟨c, _⟩ | ⟨c, _⟩
    · exact hKT c.symm
    · exact hwT c.symm
    · exact h.xT (nq _ c) rfl
  -- another waiter's first three cells aren't, nor are the links of those that stand elsewhere
  have nC : ∀ y c', WtAt W y c' → ∀ j, j < 3 → ¬ PutS K (2 * i) w (s.q i k) y j := fun y c' hy j hj c => by
    rcases c with ⟨c, _⟩ | ⟨_, c⟩ | ⟨_, c⟩
    · exact h.kx hk hy c.symm
    · omega
    · omega
  exact { h with
    t0 := hc.cell _ _ _ (nT 0) h.t0
    t1 := hc.cell _ _ _ (nT 1) h.t1
    t2 := hc.cell _ _ _ (nT 2) h.t2
    m0 := h.m0.of_block (hc.block ml h.m0.lt (nM h.m0))
    m1 := h.m1.of_block (hc.block mh h.m1.lt (nM h.m1))
    m2 := h.m2.of_block (hc.block mw h.m2.lt (nM h.m2))
    md := fun o m e => (h.md o m e).of_block (hc.block m (h.md o m e).lt (nM (h.md o m e)))
    qa := fun k' K' e j hj => by
      show QAt X K' (2 * j) (updQ s.q i k (s.q i k ++ [w]) j k')
      by_cases c : j = i ∧ k' = k
      · obtain ⟨rfl, rfl⟩ := c
        have e : s.lk k' = some K' := e
        rw [hk] at e
        injection e with e
        subst e
        rw [updQ_same]
        exact hq
      · rw [updQ_other _ _ c]
        have nS : ∀ y, y ∈ s.q j k' → ¬ PutS K (2 * i) w (s.q i k) y 3 ∧ ¬ PutS K (2 * i) w (s.q i k) y 4 := fun y hy => by
          have hyw : y ≠ w := fun e2 => hf j k' hj (e2 ▸ hy)
          have hyK : y ≠ K := fun e2 => h.kx hk (h.wc j k' y hj hy) e2.symm
          have hyq : y ∉ s.q i k := fun c2 => by
            have := h.qd j i k' k y hj hi hy c2
            exact c this
          constructor <;> (intro c2; rcases c2 with ⟨c2, _⟩ | ⟨c2, _⟩ | ⟨c2, _⟩)
          · exact hyK c2
          · exact hyw c2
          · exact hyq c2
          · exact hyK c2
          · exact hyw c2
          · exact hyq c2
        have nK : ∀ d, d < 2 → ¬ PutS K (2 * i) w (s.q i k) K' (2 * j + d) := fun d hd c2 => by
          rcases c2 with ⟨c2, c3⟩ | ⟨c2, _⟩ | ⟨c2, _⟩
          · have : k' = k := h.li k' k K (c2 ▸ e) hk
            exact c ⟨by omega, this⟩
          · exact h.kx e hx c2
          · exact h.kx e (nq _ c2) rfl
        exact (h.qa k' K' e j hj).keep hc ⟨nK 0 (by decide), nK 1 (by decide)⟩ nS
    qn := fun k' e j => by
      show updQ s.q i k (s.q i k ++ [w]) j k' = []
      have e : s.lk k' = none := e
      have : ¬ (j = i ∧ k' = k) := fun c => by rw [c.2, hk] at e; cases e
      rw [updQ_other _ _ this]
      exact h.qn k' e j
    wc := fun j k' y hj hy => by
      show WtAt X y (updC s.con w x y)
      by_cases e : y = w
      · rw [e, hconw]
        exact hx.keep hc (nC w x hx)
      · rw [hcon y e]
        have hy2 : y ∈ s.q j k' := by
          have hy : y ∈ updQ s.q i k (s.q i k ++ [w]) j k' := hy
          by_cases c : j = i ∧ k' = k
          · obtain ⟨rfl, rfl⟩ := c
            rw [updQ_same] at hy
            rcases List.mem_append.1 hy with q | q
            · exact q
            · exact absurd (List.mem_singleton.1 q) e
          · rw [updQ_other _ _ c] at hy; exact hy
        exact (h.wc j k' y hj hy2).keep hc (nC y _ (h.wc j k' y hj hy2))
    qd := fun a b k1 k2 y ha hb h1 h2 => by
      have cases1 : ∀ a k1, a < 3 → y ∈ updQ s.q i k (s.q i k ++ [w]) a k1 → (y = w ∧ a = i ∧ k1 = k) ∨ (y ≠ w ∧ y ∈ s.q a k1) := fun a k1 ha h1 => by
        by_cases c : a = i ∧ k1 = k
        · obtain ⟨rfl, rfl⟩ := c
          rw [updQ_same] at h1
          rcases List.mem_append.1 h1 with q | q
          · exact .inr ⟨fun e => hf a k1 ha (e ▸ q), q⟩
          · exact .inl ⟨List.mem_singleton.1 q, rfl, rfl⟩
        · rw [updQ_other _ _ c] at h1
          exact .inr ⟨fun e => hf a k1 ha (e ▸ h1), h1⟩
      rcases cases1 a k1 ha h1 with ⟨e1, e2, e3⟩ | ⟨e1, e2⟩ <;> rcases cases1 b k2 hb h2 with ⟨d1, d2, d3⟩ | ⟨d1, d2⟩
      · exact ⟨by rw [e2, d2], by rw [e3, d3]⟩
      · exact absurd e1 d1
      · exact absurd d1 e1
      · exact h.qd a b k1 k2 y ha hb e2 d2
    bw := fun j k' y hj hy => by
      have hy : y ∈ updQ s.q i k (s.q i k ++ [w]) j k' := hy
      by_cases c : j = i ∧ k' = k
      · obtain ⟨rfl, rfl⟩ := c
        rw [updQ_same] at hy
        rcases List.mem_append.1 hy with q | q
        · exact h.bw j k' y hj q
        · rw [List.mem_singleton.1 q]; exact hB
      · rw [updQ_other _ _ c] at hy; exact h.bw j k' y hj hy
    ps := (h.ps.cf hc (fun b c e j c2 => by
      rcases c2 with ⟨c2, _⟩ | ⟨c2, _⟩ | ⟨c2, _⟩
      · exact h.ps.pk b c k K e hk c2
      · exact hp b c e c2
      · exact h.ps.px b c i k b e hi c2 rfl)).setQ fun b c j k' y e hj hy => by
      have hy : y ∈ updQ s.q i k (s.q i k ++ [w]) j k' := hy
      by_cases c : j = i ∧ k' = k
      · obtain ⟨rfl, rfl⟩ := c
        rw [updQ_same] at hy
        rcases List.mem_append.1 hy with q | q
        · exact h.ps.px b _ j k' y e hj q
        · rw [List.mem_singleton.1 q]; exact hp b _ e
      · rw [updQ_other _ _ c] at hy; exact h.ps.px b _ j k' y e hj hy }
end
end Go.Proofs.Ytjojempjmpaaaaa

namespace Go.Proofs.Ytjojempjmpaaaaa
open Go.RowKit
/-- A waiter that stands in no queue yet. -/
structure Fw (W : World) (w : Nat) (x : Wc) : Prop where
  c : WtAt W w x
  c3 : ∃ v, W.cell? ⟨w, 3, none⟩ = some v
  c4 : ∃ v, W.cell? ⟨w, 4, none⟩ = some v
  fz : ∀ i, W.frozen? ⟨w, i, none⟩ = false
section
variable {B : Nat} {W X : World} {T ml mh mw n : Nat} {s : Lk} {w : Nat} {x : Wc}
theorem Fw.below (h : Fw W w x) (hb : Below W.heap.size W X) : Fw X w x := by
  obtain ⟨v3, h3⟩ := h.c3
  obtain ⟨v4, h4⟩ := h.c4
  exact ⟨h.c.below hb, ⟨v3, keep_cell hb h3⟩, ⟨v4, keep_cell hb h4⟩, fun i => (hb.frozen (p := ⟨w, i, none⟩) h.c.lt).trans (h.fz i)⟩
theorem Fw.grown (h : Fw W w x) {M : Nat} (hM : ∀ i, W.cell? ⟨M, i, none⟩ = none) (hg : W.grownBy X (some M)) : Fw X w x := by
  obtain ⟨v3, h3⟩ := h.c3
  obtain ⟨v4, h4⟩ := h.c4
  have ne : w ≠ M := fun e => by
    have := h.c.c0
    rw [e, hM] at this; cases this
  have hc := Cf.grown hg
  exact ⟨h.c.keep hc (fun _ _ => ne), ⟨v3, hc.cell _ _ _ ne h3⟩, ⟨v4, hc.cell _ _ _ ne h4⟩, fun i => (hc.frz w i h.c.lt ⟨0, ne⟩).trans (h.fz i)⟩
/-- What hold leaves: the map of the owner's is m. -/
noncomputable def heldS (s : Lk) (m w : Nat) (x : Wc) : Lk := { s with hm := updM s.hm x.ow (some m), hd := updH s.hd x.ow x.k (some w), q := updQ s.q 0 x.k (s.q 0 x.k ++ [w]), con := updC s.con w x }
def HoP (B : Nat) (T ml mh mw n : Nat) (s : Lk) (w : Nat) (x : Wc) (W : World) (e : Ending) (W' : World) : Prop :=
  e = .returned (.tuple #[]) ∧ ∃ m, LkAt B W' T ml mh mw (n + 2) (heldS s m w x) ∧ Below B W W'
theorem LkAt.grownB (h : LkAt B W T ml mh mw n s) {M : Nat} (hM : B ≤ M) (hg : W.grownBy X (some M)) : Below B W X :=
  (Below.refl B W).grown hg h.lts (fun g e => by injection e with e; omega)
theorem cf_below {S : Nat → Nat → Prop} (hc : Cf W X S) (hS : ∀ b i, S b i → B ≤ b) (hB : B ≤ W.heap.size) : Below B W X :=
  ⟨hc.os, hc.tape, hc.output, hc.size, fun b hb => hc.block b (Nat.lt_of_lt_of_le hb hB) (fun i q => by have := hS b i q; omega)⟩
set_option maxRecDepth 100000 in
set_option maxHeartbeats 2000000 in
theorem hold_in (h : LkAt B W T ml mh mw n s) (hx : Fw W w x) (hf : ∀ i k', i < 3 → w ∉ s.q i k') (hp : ∀ b c, s.pas b = some c → b ≠ w) (hB : B ≤ w) {K m : Nat} (hk : s.lk x.k = some K) (hm : s.hm x.ow = some m) (hh : s.hd x.ow x.k = none) (hks : x.k.size ≤ maxLen) (hwf : (Lit.int .i64 x.ow).wf = true) (hn : n < maxLen) :
    Calls Try.prog 32 #[.pointer (some ⟨T, 0, none⟩), .pointer (some ⟨w, 0, none⟩)] W (HoP B T ml mh mw n s w x W) := by
  have HD := Lib.hid (h.below (Below.refl _ _).drew)
  have HX := Lib.hid (hx.below (Below.refl _ _).drew)
  have t1 := HD.out.t1
  have c2 := HX.out.c.c2
  have c0 := HX.out.c.c0
  have l1 := HD.out.m1.look heldMap x.ow hwf
  rw [hm] at l1
  have l1 : (Instr.lookup 57 (.map (some mh)) (.int .i64 x.ow) false).run Try.prog W.drew = .ok (.map (some m)) W.drew := l1
  have l2 := (HD.out.md x.ow m hm).look waiterMap x.k hks
  rw [hh] at l2
  have l2 : (Instr.lookup 73 (.map (some m)) (.string x.k) false).run Try.prog W.drew = .ok (.pointer none) W.drew := l2
  obtain ⟨X1, hst, hm1, hg1, hs1⟩ := (HD.out.md x.ow m hm).store waiterMap x.k hks w hn
  have hst : (Instr.mapUpdate 73 (.map (some m)) (.string x.k) (.pointer (some ⟨w, 0, none⟩))).run Try.prog W.drew = .ok () X1 := hst
  have h1 := HD.out.setHeld (z := some w) hm hm1 hg1
  have hx1 := HX.out.grown (HD.out.md x.ow m hm).no_cell hg1
  have hb1 := HD.out.grownB (h.bm x.ow m hm) hg1
  -- the lock's queue
  have H2 := Lib.hid (h1.below (Below.refl _ _).drew)
  have HX2 := Lib.hid (hx1.below (Below.refl _ _).drew)
  have u0 := H2.out.t0
  have d0 := HX2.out.c.c0
  have l3 := H2.out.m0.look lockMap x.k hks
  rw [show ({ s with hd := updH s.hd x.ow x.k (some w) } : Lk).lk x.k = some K from hk] at l3
  have l3 : (Instr.lookup 56 (.map (some ml)) (.string x.k) false).run Try.prog X1.drew = .ok (.pointer (some ⟨K, 0, none⟩)) X1.drew := l3
  obtain ⟨v3, e3⟩ := HX2.out.c3
  obtain ⟨v4, e4⟩ := HX2.out.c4
  have KP := Lib.hid (put_any (H2.out.qa x.k K hk 0 (by decide)) (hf 0 x.k (by decide)) (H2.out.kx hk HX2.out.c).symm e3 e4 HX2.out.fz)
  have HB1 : Hid (Below B W X1.drew) := by
    have e1 : Below B W W.drew := (Below.refl _ _).drew
    exact (e1.trans hb1).drew
  have HF := Lib.hid hf
  have HPW := Lib.hid hp
  have HK := Lib.hid hk
  have HM := Lib.hid hm
  have HBw := Lib.hid hB
  have qE : ∀ (w : World) (r : Option Nat), (binOp .eql 73 (.map r) (.map none)).run Try.prog w = .ok (.bool r.isNone) w := fun w r => run_eql_map_nil w _ _ _ r Try.underlying73
  have qb := h.bk x.k K hk
  have QB := Lib.hid (fun y => h.bw 0 x.k y (by decide))
  clear h hx hf hp hk hm hh hm1 hg1 h1 hx1 hb1 hB e3 e4 hs1
  go_enter Try.func32, Try.ntmps32
  go_upto_region 0 with fail
  refine wp_region_any (by kernel_rfl) ?_
  change wpAny _ _ _ _ _ _ _ (World.drew _)
  refine wpAny_rest 0 (by rfl) (by kernel_rfl) ?_
  simp only [List.drop_zero]
  repeat still_step
  refine wpStill_nil ?_
  generalize W.drew = W1 at *
  go_upto_region 8 with fail
  refine wp_region_still_tail 13 (by kernel_rfl) (by kernel_rfl) ?_
  simp only [List.take_succ_cons, List.take_zero, List.drop_succ_cons, List.drop_zero]
  generalize hX1 : X1.drew = X2 at *
  change wpStill _ _ (X1.drew) (fun _ => wpList _ _ _ _ _ (X1.drew)) _ _
  rw [hX1]
  repeat still_step
  refine wpStill_nil ?_
  go_wp2_with fail
  refine KP.out.mono ?_
  rintro e w3 ⟨rfl, hq, hc⟩
  have H3 := H2.out.putQ (i := 0) (by decide) HK.out HX2.out.c HF.out HPW.out HBw.out hq hc
  have HB3 := HB1.out.trans (cf_below hc (fun b i q => by
    rcases q with ⟨q, _⟩ | ⟨q, _⟩ | ⟨q, _⟩
    · rw [q]; exact qb
    · rw [q]; exact HBw.out
    · exact QB.out b q) H2.out.lts)
  have HP : Hid (HoP B T ml mh mw n s w x W (.returned (.tuple #[])) w3) := ⟨rfl, m, by
    unfold heldS
    rw [updM_id HM.out]
    exact H3.mono (Nat.le_succ _), HB3⟩
  clear H3 HB3 hq hc KP
  go_wp2
  refine bodyPost_end (v := .tuple #[]) (results_none rfl _ _ _) ?_ ?_
  · rfl
  · exact HP.out
set_option maxRecDepth 100000 in
set_option maxHeartbeats 2000000 in
theorem hold_new (h : LkAt B W T ml mh mw n s) (hx : Fw W w x) (hf : ∀ i k', i < 3 → w ∉ s.q i k') (hp : ∀ b c, s.pas b = some c → b ≠ w) (hB : B ≤ w) {K : Nat} (hk : s.lk x.k = some K) (hm : s.hm x.ow = none) (hks : x.k.size ≤ maxLen) (hwf : (Lit.int .i64 x.ow).wf = true) (hn : n + 1 < maxLen) :
    Calls Try.prog 32 #[.pointer (some ⟨T, 0, none⟩), .pointer (some ⟨w, 0, none⟩)] W (HoP B T ml mh mw n s w x W) := by
  have HD := Lib.hid (h.below (Below.refl _ _).drew)
  have HX := Lib.hid (hx.below (Below.refl _ _).drew)
  have t1 := HD.out.t1
  have c2 := HX.out.c.c2
  have c0 := HX.out.c.c0
  have l1 := HD.out.m1.look heldMap x.ow hwf
  rw [hm] at l1
  have l1 : (Instr.lookup 57 (.map (some mh)) (.int .i64 x.ow) false).run Try.prog W.drew = .ok (.map none) W.drew := l1
  have hmm := @run_makeMap Try.prog
  generalize hW1 : W.drew = W1 at *
  -- the owner's map
  have hba : Below W1.heap.size W1 (W1.alloc (.map #[] 0)) := (Below.refl _ _).alloc (Nat.le_refl _) _
  have HY := Lib.hid ((HD.out.below hba).below (Below.refl _ _).drew)
  have HXY := Lib.hid ((HX.out.below hba).below (Below.refl _ _).drew)
  have m0 : MAt sKy pV (W1.alloc (.map #[] 0)).drew W1.heap.size 0 (fun _ => none) := (MAt.made (Y := sKy) (mk := pV) W1).of_block rfl
  have y1 := HY.out.t1
  have y2 := HXY.out.c.c2
  obtain ⟨X0, hst0, hm0, hg0, hs0⟩ := HY.out.m1.store heldMap x.ow hwf W1.heap.size (by omega)
  have hst0 : (Instr.mapUpdate 57 (.map (some mh)) (.int .i64 x.ow) (.map (some W1.heap.size))).run Try.prog (W1.alloc (.map #[] 0)).drew = .ok () X0 := hst0
  have hlt1 : ∀ o' m', s.hm o' = some m' → m' ≠ W1.heap.size := fun o' m' e => by
    have := (HD.out.md o' m' e).lt
    omega
  have hne1 : W1.heap.size ≠ ml ∧ W1.heap.size ≠ mh ∧ W1.heap.size ≠ mw := by
    have q1 := HD.out.m0.lt
    have q2 := HD.out.m1.lt
    have q3 := HD.out.m2.lt
    exact ⟨by omega, by omega, by omega⟩
  have hh0 := h.hn x.ow hm
  have H0 := HY.out.addMap hm m0 hlt1 hne1 HD.out.lts hm0 hg0
  have hx0 := HXY.out.grown HY.out.m1.no_cell hg0
  have z1 : Below B W1 X0 := (hba.mono HD.out.lts).drew.trans (HY.out.grownB HY.out.bt.2.2.1 hg0)
  have hm2 : ({ s with hm := updM s.hm x.ow (some W1.heap.size) } : Lk).hm x.ow = some W1.heap.size := updM_same _ _ _
  generalize hmd : W1.heap.size = m at *
  have z0 := hx0.c.c0
  have l2 := (H0.md x.ow m hm2).look waiterMap x.k hks
  rw [show ({ s with hm := updM s.hm x.ow (some m) } : Lk).hd x.ow x.k = none from hh0 x.k] at l2
  have l2 : (Instr.lookup 73 (.map (some m)) (.string x.k) false).run Try.prog X0 = .ok (.pointer none) X0 := l2
  obtain ⟨X1, hst, hm1, hg1, hs1⟩ := (H0.md x.ow m hm2).store waiterMap x.k hks w hn
  have hst : (Instr.mapUpdate 73 (.map (some m)) (.string x.k) (.pointer (some ⟨w, 0, none⟩))).run Try.prog X0 = .ok () X1 := hst
  have h1 := H0.setHeld (z := some w) hm2 hm1 hg1
  have hx1 := hx0.grown (H0.md x.ow m hm2).no_cell hg1
  have hb1 := H0.grownB (H0.bm x.ow m hm2) hg1
  -- the lock's queue
  have H2 := Lib.hid (h1.below (Below.refl _ _).drew)
  have HX2 := Lib.hid (hx1.below (Below.refl _ _).drew)
  have u0 := H2.out.t0
  have d0 := HX2.out.c.c0
  have l3 := H2.out.m0.look lockMap x.k hks
  rw [show ({ s with hm := updM s.hm x.ow (some m), hd := updH s.hd x.ow x.k (some w) } : Lk).lk x.k = some K from hk] at l3
  have l3 : (Instr.lookup 56 (.map (some ml)) (.string x.k) false).run Try.prog X1.drew = .ok (.pointer (some ⟨K, 0, none⟩)) X1.drew := l3
  obtain ⟨v3, e3⟩ := HX2.out.c3
  obtain ⟨v4, e4⟩ := HX2.out.c4
  have KP := Lib.hid (put_any (H2.out.qa x.k K hk 0 (by decide)) (hf 0 x.k (by decide)) (H2.out.kx hk HX2.out.c).symm e3 e4 HX2.out.fz)
  have HB1 : Hid (Below B W X1.drew) := by
    have e1 : Below B W W.drew := (Below.refl _ _).drew
    rw [hW1] at e1
    exact ((e1.trans z1).trans hb1).drew
  have HF := Lib.hid hf
  have HPW := Lib.hid hp
  have HK := Lib.hid hk
  have HBw := Lib.hid hB
  have qE : ∀ (w : World) (r : Option Nat), (binOp .eql 73 (.map r) (.map none)).run Try.prog w = .ok (.bool r.isNone) w := fun w r => run_eql_map_nil w _ _ _ r Try.underlying73
  have qb := h.bk x.k K hk
  have QB := Lib.hid (fun y => h.bw 0 x.k y (by decide))
  have qE2 : ∀ (w : World) (r : Option Nat), (binOp .eql 73 (.map r) (.map none)).run Try.prog w = .ok (.bool r.isNone) w := qE
  clear h hx hf hp hk hm hm1 hg1 h1 hx1 hb1 hB e3 e4 hs1 m0 hm0 hg0 hlt1 hne1 hh0 H0 hx0 z1 hm2 qE2 hs0
  go_enter Try.func32, Try.ntmps32
  go_upto_region 0 with fail
  refine wp_region_any (by kernel_rfl) ?_
  change wpAny _ _ _ _ _ _ _ (World.drew _)
  rw [hW1]
  refine wpAny_rest 0 (by rfl) (by kernel_rfl) ?_
  simp only [List.drop_zero]
  repeat still_step
  refine wpStill_nil ?_
  go_upto_region 3 with fail
  refine wp_region_still_tail 9 (by kernel_rfl) (by kernel_rfl) ?_
  simp only [List.take_succ_cons, List.take_zero, List.drop_succ_cons, List.drop_zero]
  generalize hY1 : (W1.alloc (.map #[] 0)).drew = Y1 at *
  change wpStill _ _ ((W1.alloc (.map #[] 0)).drew) (fun _ => wpList _ _ _ _ _ ((W1.alloc (.map #[] 0)).drew)) _ _
  rw [hY1]
  repeat still_step
  refine wpStill_nil ?_
  go_upto_region 8 with fail
  refine wp_region_still_tail 13 (by kernel_rfl) (by kernel_rfl) ?_
  simp only [List.take_succ_cons, List.take_zero, List.drop_succ_cons, List.drop_zero]
  generalize hX1 : X1.drew = X2 at *
  change wpStill _ _ (X1.drew) (fun _ => wpList _ _ _ _ _ (X1.drew)) _ _
  rw [hX1]
  repeat still_step
  refine wpStill_nil ?_
  go_wp2_with fail
  refine KP.out.mono ?_
  rintro e w3 ⟨rfl, hq, hc⟩
  have H3 := H2.out.putQ (i := 0) (by decide) HK.out HX2.out.c HF.out HPW.out HBw.out hq hc
  have HB3 := HB1.out.trans (cf_below hc (fun b i q => by
    rcases q with ⟨q, _⟩ | ⟨q, _⟩ | ⟨q, _⟩
    · rw [q]; exact qb
    · rw [q]; exact HBw.out
    · exact QB.out b q) H2.out.lts)
  have HP : Hid (HoP B T ml mh mw n s w x W (.returned (.tuple #[])) w3) := ⟨rfl, m, by
    unfold heldS
    exact H3, HB3⟩
  clear H3 HB3 hq hc KP
  go_wp2
  refine bodyPost_end (v := .tuple #[]) (results_none rfl _ _ _) ?_ ?_
  · rfl
  · exact HP.out
end
end Go.Proofs.Ytjojempjmpaaaaa

namespace Go.Proofs.Ytjojempjmpaaaaa
open Go.RowKit Go.Maps Go.ChangeMaps Go.MapKept Go.WideElems Go.WideMaps
theorem look_nil_w (W : World) (k : ByteArray) (hk : k.size ≤ maxLen) : (Instr.lookup 73 (.map none) (.string k) false).run Try.prog W = .ok (.pointer none) W := by
  have h := look_nil (P := Try.prog) (w := W) false (string_keyed Try.underlying9) Try.underlying73 (waiterMap.z W) (keyOf_string_mk (P := Try.prog) Try.underlying9 hk)
  simpa [pV] using h
section
variable {B : Nat} {W X : World} {T ml mh mw n : Nat} {s : Lk} {w : Nat} {x : Wc}
set_option maxRecDepth 100000 in
set_option maxHeartbeats 2000000 in
theorem line_others (h : LkAt B W T ml mh mw n s) (hx : WtAt W w x) {K : Nat} (hk : s.lk x.k = some K) (hh : s.hd x.ow x.k = none) (hks : x.k.size ≤ maxLen) (hwf : (Lit.int .i64 x.ow).wf = true) :
    Calls Try.prog 33 #[.pointer (some ⟨T, 0, none⟩), .pointer (some ⟨w, 0, none⟩)] W fun e W' => e = .returned (.pointer (some ⟨K, 4, none⟩)) ∧ Below W.heap.size W W' := by
  have HD := Lib.hid (h.below (Below.refl _ _).drew)
  have HX := Lib.hid (hx.below (Below.refl _ _).drew)
  have HE := Lib.hid (HD.out.below (Below.refl _ _).drew)
  have t0 := HD.out.t0
  have c0 := HX.out.c0
  have HXE := Lib.hid (HX.out.below (Below.refl _ _).drew)
  have e0 := HXE.out.c0
  have e2 := HXE.out.c2
  have e1 := HE.out.t1
  have l3 := HD.out.m0.look lockMap x.k hks
  rw [hk] at l3
  have l3 : (Instr.lookup 56 (.map (some ml)) (.string x.k) false).run Try.prog W.drew = .ok (.pointer (some ⟨K, 0, none⟩)) W.drew := l3
  have l1 := HE.out.m1.look heldMap x.ow hwf
  have hb : Below W.heap.size W W.drew.drew := (Below.refl _ _).drew.drew
  have HB := Lib.hid hb
  have hlook : ∃ v, (Instr.lookup 57 (.map (some mh)) (.int .i64 x.ow) false).run Try.prog W.drew.drew = .ok v W.drew.drew ∧ (Instr.lookup 73 v (.string x.k) false).run Try.prog W.drew.drew = .ok (.pointer none) W.drew.drew := by
    cases hm : s.hm x.ow with
    | none => rw [hm] at l1; exact ⟨_, l1, look_nil_w _ _ hks⟩
    | some m =>
      rw [hm] at l1
      have l2 := (HE.out.md x.ow m hm).look waiterMap x.k hks
      rw [hh] at l2
      exact ⟨_, l1, l2⟩
  obtain ⟨v, l4, l5⟩ := hlook
  clear h hx l1 hk hh hb
  generalize hW2 : W.drew.drew = W2 at *
  generalize hW1 : W.drew = W1 at *
  go_enter Try.func33, Try.ntmps33
  go_upto_region 1 with fail
  refine wp_region_any (by kernel_rfl) ?_
  change wpAny _ _ _ _ _ _ _ (World.drew _)
  rw [hW1]
  refine wpAny_rest 0 (by rfl) (by kernel_rfl) ?_
  simp only [List.drop_zero]
  repeat still_step
  refine wpStill_nil ?_
  go_upto_region 2 with fail
  refine wp_region_any (by kernel_rfl) ?_
  change wpAny _ _ _ _ _ _ _ (World.drew _)
  rw [hW2]
  refine wpAny_rest 0 (by rfl) (by kernel_rfl) ?_
  simp only [List.drop_zero]
  repeat still_step
  refine wpStill_nil ?_
  go_wp2
  go_ret
  exact ⟨rfl, HB.out⟩
end
end Go.Proofs.Ytjojempjmpaaaaa

namespace Go.Proofs.Ytjojempjmpaaaaa
open Go.RowKit
/-- A table behind the making of a key's lock. -/
noncomputable def lockS (s : Lk) (k : ByteArray) (K : Nat) : Lk := { s with lk := updM s.lk k (some K) }
/-- Who must wait stands behind the others. -/
noncomputable def waitS (s : Lk) (w : Nat) (x : Wc) : Lk := { s with q := updQ s.q 2 x.k (s.q 2 x.k ++ [w]), con := updC s.con w x, wt := updM s.wt x.ow (some w) }
/-- What is there ahead of the answer: a waiter of its own. -/
structure AskA (B : Nat) (W0 W : World) (T ml mh mw n K w : Nat) (s : Lk) (k : ByteArray) (b : Bool) (o : Int) : Prop where
  t : LkAt B W T ml mh mw (n + 1) (lockS s k K)
  f : Fw W w ⟨k, b, o⟩
  nf : ∀ i k', i < 3 → w ∉ s.q i k'
  np : ∀ b c, s.pas b = some c → b ≠ w
  bw : B ≤ w
  be : Below B W0 W
section
variable {B : Nat} {W X : World} {T ml mh mw n K w : Nat} {s : Lk} {k : ByteArray} {b : Bool} {o : Int} {W0 : World}
theorem AskA.below (h : AskA B W0 W T ml mh mw n K w s k b o) (hb : Below W.heap.size W X) : AskA B W0 X T ml mh mw n K w s k b o :=
  ⟨h.t.below hb, h.f.below hb, h.nf, h.np, h.bw, h.be.trans (hb.mono h.t.lts)⟩
theorem lockS_k : (lockS s k K).lk k = some K := updM_same _ _ _
/-- What Ask leaves where the owner comes to hold the key. -/
def AskH (B : Nat) (T ml mh mw n : Nat) (s : Lk) (k : ByteArray) (b : Bool) (o : Int) (W : World) (e : Ending) (W' : World) : Prop :=
  e = .returned (.int .i64 0) ∧ ∃ K m w, LkAt B W' T ml mh mw (n + 3) (heldS (lockS s k K) m w ⟨k, b, o⟩) ∧ (∀ i k', i < 3 → w ∉ s.q i k') ∧ Below B W W'
/-- What Ask leaves where it must wait. -/
def AskW (B : Nat) (T ml mh mw n : Nat) (s : Lk) (k : ByteArray) (b : Bool) (o : Int) (W : World) (e : Ending) (W' : World) : Prop :=
  e = .returned (.int .i64 10) ∧ ∃ K w, LkAt B W' T ml mh mw (n + 3) (waitS (lockS s k K) w ⟨k, b, o⟩) ∧ (∀ i k', i < 3 → w ∉ s.q i k') ∧ Below B W W'
/-- hold, behind all that is made. -/
theorem AskA.hold (h : AskA B W0 W T ml mh mw n K w s k b o) (hh : s.hd o k = none) (hs : k.size ≤ 1000) (hwf : (Lit.int .i64 o).wf = true) (hn : n ≤ 100000) :
    Calls Try.prog 32 #[.pointer (some ⟨T, 0, none⟩), .pointer (some ⟨w, 0, none⟩)] W fun e W' => e = .returned (.tuple #[]) ∧ ∃ m, LkAt B W' T ml mh mw (n + 3) (heldS (lockS s k K) m w ⟨k, b, o⟩) ∧ Below B W0 W' := by
  have key : ∀ {e : Ending} {W' : World}, HoP B T ml mh mw (n + 1) (lockS s k K) w ⟨k, b, o⟩ W e W' → e = .returned (.tuple #[]) ∧ ∃ m, LkAt B W' T ml mh mw (n + 3) (heldS (lockS s k K) m w ⟨k, b, o⟩) ∧ Below B W0 W' := fun hp => by
    obtain ⟨e, m, h1, h2⟩ := hp
    exact ⟨e, m, h1, h.be.trans h2⟩
  cases hm : s.hm o with
  | none => exact (hold_new h.t h.f h.nf h.np h.bw lockS_k hm (show k.size ≤ maxLen by unfold maxLen; omega) hwf (by unfold maxLen; omega)).mono (fun _ _ hp => key hp)
  | some m => exact (hold_in h.t h.f h.nf h.np h.bw lockS_k hm hh (show k.size ≤ maxLen by unfold maxLen; omega) hwf (by unfold maxLen; omega)).mono (fun _ _ hp => key hp)
theorem AskA.first (h : AskA B W0 W T ml mh mw n K w s k b o) : Calls Try.prog 30 #[.pointer (some ⟨K, 0, none⟩)] W fun e W' => e = .returned (pV (s.q 1 k ++ s.q 2 k).head?) ∧ W = W' :=
  first_any (h.t.qa k K lockS_k 1 (by decide)) (h.t.qa k K lockS_k 2 (by decide))
theorem AskA.free (h : AskA B W0 W T ml mh mw n K w s k b o) : Calls Try.prog 31 #[.pointer (some ⟨K, 0, none⟩), .pointer (some ⟨w, 0, none⟩)] W fun e W' => e = .returned (.bool (freeB s.con ⟨k, b, o⟩ (s.q 0 k))) ∧ Below W.heap.size W W' :=
  free_any s.con (h.t.qa k K lockS_k 0 (by decide)) h.f.c (fun z hz => h.t.wc 0 k z (by decide) hz)
theorem AskA.line (h : AskA B W0 W T ml mh mw n K w s k b o) (hh : s.hd o k = none) (hs : k.size ≤ 1000) (hwf : (Lit.int .i64 o).wf = true) : Calls Try.prog 33 #[.pointer (some ⟨T, 0, none⟩), .pointer (some ⟨w, 0, none⟩)] W fun e W' => e = .returned (.pointer (some ⟨K, 4, none⟩)) ∧ Below W.heap.size W W' :=
  line_others h.t h.f.c lockS_k hh (show k.size ≤ maxLen by unfold maxLen; omega) hwf
theorem AskA.put (h : AskA B W0 W T ml mh mw n K w s k b o) : Calls Try.prog 34 #[.pointer (some ⟨K, 4, none⟩), .pointer (some ⟨w, 0, none⟩)] W fun e W' => e = .returned (.tuple #[]) ∧ LkAt B W' T ml mh mw (n + 1) { lockS s k K with q := updQ s.q 2 k (s.q 2 k ++ [w]), con := updC s.con w ⟨k, b, o⟩ } ∧ Below B W0 W' := by
  obtain ⟨v3, e3⟩ := h.f.c3
  obtain ⟨v4, e4⟩ := h.f.c4
  refine (put_any (h.t.qa k K lockS_k 2 (by decide)) (h.nf 2 k (by decide)) (h.t.kx lockS_k h.f.c).symm e3 e4 h.f.fz).mono ?_
  rintro e W' ⟨rfl, hq, hc⟩
  refine ⟨rfl, h.t.putQ (i := 2) (by decide) lockS_k h.f.c h.nf h.np h.bw hq hc, h.be.trans (cf_below hc (fun c i q => ?_) h.t.lts)⟩
  rcases q with ⟨q, _⟩ | ⟨q, _⟩ | ⟨q, _⟩
  · rw [q]; exact h.t.bk k K lockS_k
  · rw [q]; exact h.bw
  · exact h.t.bw 2 k c (by decide) q
end
end Go.Proofs.Ytjojempjmpaaaaa
