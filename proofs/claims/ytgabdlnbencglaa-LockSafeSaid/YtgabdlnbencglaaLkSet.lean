/-
  A TABLE OF LOCKS: what a write leaves: a map that is made, what is held, who waits, a queue.
-/
import Derived.Test.YtgabdlnbencglaaLkOf
namespace Go.Proofs.Ytgabdlnbencglaa
open Go.RowKit
section
variable {B : Nat} {W X : World} {T ml mh mw n : Nat} {s : Lk}
/-- A map's write leaves all cells. -/
theorem LkAt.kq (h : LkAt B W T ml mh mw n s) {M : Nat} (hM : ∀ i, W.cell? ⟨M, i, none⟩ = none) (hg : W.grownBy X (some M)) :
    X.cell? ⟨T, 0, none⟩ = some (.map (some ml)) ∧ X.cell? ⟨T, 1, none⟩ = some (.map (some mh)) ∧ X.cell? ⟨T, 2, none⟩ = some (.map (some mw)) ∧ (∀ k K, s.lk k = some K → ∀ i, i < 3 → QAt X K (2 * i) (s.q i k)) ∧ (∀ i k x, i < 3 → x ∈ s.q i k → WtAt X x (s.con x)) ∧ Ps X T s.lk s.q s.pas := by
  have hc := Cf.grown hg
  have ne : ∀ {b i : Nat} {v : Value}, W.cell? ⟨b, i, none⟩ = some v → b ≠ M := fun hb e => by
    rw [e, hM] at hb; cases hb
  exact ⟨hc.cell _ _ _ (ne h.t0) h.t0, hc.cell _ _ _ (ne h.t0) h.t1, hc.cell _ _ _ (ne h.t0) h.t2, fun k K e i hi => (h.qa k K e i hi).keep hc ⟨ne (h.qa k K e i hi).f, ne (h.qa k K e i hi).f⟩ (fun x hx => ⟨ne (h.wc i k x hi hx).c0, ne (h.wc i k x hi hx).c0⟩), fun i k x hi hx => (h.wc i k x hi hx).keep hc (fun _ _ => ne (h.wc i k x hi hx).c0), h.ps.grown hM hg⟩
/-- An owner comes to have a map. -/
theorem LkAt.addMap (h : LkAt B W T ml mh mw n s) {o : Int} {m : Nat} (h0 : s.hm o = none) (hm0 : MAt sKy pV W m 0 (fun _ => none)) (hf : ∀ o' m', s.hm o' = some m' → m' ≠ m) (hne : m ≠ ml ∧ m ≠ mh ∧ m ≠ mw) (hB : B ≤ m) (hm : MAt iKy mV X mh (n + 1) (updM s.hm o (some m))) (hg : W.grownBy X (some mh)) :
    LkAt B X T ml mh mw (n + 1) { s with hm := updM s.hm o (some m) } := by
  obtain ⟨k0, k1, k2, k3, k4, k5⟩ := h.kq h.m1.no_cell hg
  have hb : ∀ b, b < W.heap.size → b ≠ mh → X.heap[b]? = W.heap[b]? := fun b hb hn => hg.block b hb (fun e => hn (by injection e))
  exact { h with
    t0 := k0
    t1 := k1
    t2 := k2
    m0 := (h.m0.of_block (hb ml h.m0.lt h.mn.1)).mono (Nat.le_succ n)
    m1 := hm
    m2 := (h.m2.of_block (hb mw h.m2.lt h.mn.2.2.symm)).mono (Nat.le_succ n)
    md := fun o' m' e => by
      rcases updM_cases e with ⟨rfl, e2⟩ | ⟨_, e2⟩
      · injection e2 with e2
        subst e2
        have e3 : s.hd o' = fun _ => none := by funext k; exact h.hn o' h0 k
        show MAt sKy pV X m (n + 1) (s.hd o')
        rw [e3]
        exact (hm0.of_block (hb m hm0.lt hne.2.1)).mono (Nat.zero_le _)
      · exact ((h.md o' m' e2).of_block (hb m' (h.md o' m' e2).lt (h.hne o' m' e2).2.1)).mono (Nat.le_succ n)
    qa := k3
    wc := k4
    ps := k5
    hn := fun o' e k => by
      have e : updM s.hm o (some m) o' = none := e
      by_cases e1 : o' = o
      · rw [e1, updM_same] at e; cases e
      · rw [updM_other _ _ e1] at e; exact h.hn o' e k
    hi := fun o1 o2 m' e e' => by
      rcases updM_cases e with ⟨c1, c2⟩ | ⟨_, c2⟩ <;> rcases updM_cases e' with ⟨d1, d2⟩ | ⟨_, d2⟩
      · rw [c1, d1]
      · injection c2 with c2
        exact absurd c2.symm (hf o2 m' d2)
      · injection d2 with d2
        exact absurd d2.symm (hf o1 m' c2)
      · exact h.hi o1 o2 m' c2 d2
    hne := fun o' m' e => by
      rcases updM_cases e with ⟨_, c2⟩ | ⟨_, c2⟩
      · injection c2 with c2
        rw [← c2]; exact hne
      · exact h.hne o' m' c2
    bm := fun o' m' e => by
      rcases updM_cases e with ⟨_, c2⟩ | ⟨_, c2⟩
      · injection c2 with c2
        rw [← c2]; exact hB
      · exact h.bm o' m' c2 }
noncomputable def updH (f : Int → ByteArray → Option Nat) (o : Int) (k : ByteArray) (z : Option Nat) : Int → ByteArray → Option Nat := fun o' => if o' = o then updM (f o) k z else f o'
/-- What an owner holds. -/
theorem LkAt.setHeld (h : LkAt B W T ml mh mw n s) {o : Int} {k : ByteArray} {z : Option Nat} {m : Nat} (h0 : s.hm o = some m) (hm : MAt sKy pV X m (n + 1) (updM (s.hd o) k z)) (hg : W.grownBy X (some m)) :
    LkAt B X T ml mh mw (n + 1) { s with hd := updH s.hd o k z } := by
  obtain ⟨k0, k1, k2, k3, k4, k5⟩ := h.kq (h.md o m h0).no_cell hg
  obtain ⟨n1, n2, n3⟩ := h.hne o m h0
  have hb : ∀ b, b < W.heap.size → b ≠ m → X.heap[b]? = W.heap[b]? := fun b hb hn => hg.block b hb (fun e => hn (by injection e))
  exact { h with
    t0 := k0
    t1 := k1
    t2 := k2
    m0 := (h.m0.of_block (hb ml h.m0.lt n1.symm)).mono (Nat.le_succ n)
    m1 := (h.m1.of_block (hb mh h.m1.lt n2.symm)).mono (Nat.le_succ n)
    m2 := (h.m2.of_block (hb mw h.m2.lt n3.symm)).mono (Nat.le_succ n)
    md := fun o' m' e => by
      show MAt sKy pV X m' (n + 1) (updH s.hd o k z o')
      unfold updH
      by_cases e1 : o' = o
      · subst e1
        have e : s.hm o' = some m' := e
        rw [h0] at e
        injection e with e
        subst e
        rw [if_pos rfl]
        exact hm
      · rw [if_neg e1]
        exact ((h.md o' m' e).of_block (hb m' (h.md o' m' e).lt (fun c => e1 (h.hi o' o m (c ▸ e) h0)))).mono (Nat.le_succ n)
    qa := k3
    wc := k4
    ps := k5
    hn := fun o' e k' => by
      show updH s.hd o k z o' k' = none
      unfold updH
      by_cases e1 : o' = o
      · subst e1
        have e : s.hm o' = none := e
        rw [h0] at e; cases e
      · rw [if_neg e1]; exact h.hn o' e k' }
/-- Who waits. -/
theorem LkAt.setWait (h : LkAt B W T ml mh mw n s) {o : Int} {z : Option Nat} (hm : MAt iKy pV X mw (n + 1) (updM s.wt o z)) (hg : W.grownBy X (some mw)) :
    LkAt B X T ml mh mw (n + 1) { s with wt := updM s.wt o z } := by
  obtain ⟨k0, k1, k2, k3, k4, k5⟩ := h.kq h.m2.no_cell hg
  have hb : ∀ b, b < W.heap.size → b ≠ mw → X.heap[b]? = W.heap[b]? := fun b hb hn => hg.block b hb (fun e => hn (by injection e))
  exact { h with
    t0 := k0
    t1 := k1
    t2 := k2
    m0 := (h.m0.of_block (hb ml h.m0.lt h.mn.2.1)).mono (Nat.le_succ n)
    m1 := (h.m1.of_block (hb mh h.m1.lt h.mn.2.2)).mono (Nat.le_succ n)
    m2 := hm
    md := fun o' m' e => ((h.md o' m' e).of_block (hb m' (h.md o' m' e).lt (h.hne o' m' e).2.2)).mono (Nat.le_succ n)
    qa := k3
    wc := k4
    ps := k5 }
noncomputable def updQ (f : Nat → ByteArray → List Nat) (i : Nat) (k : ByteArray) (q : List Nat) : Nat → ByteArray → List Nat := by
  classical
  exact fun i' k' => if i' = i ∧ k' = k then q else f i' k'
theorem updQ_same (f : Nat → ByteArray → List Nat) (i : Nat) (k : ByteArray) (q : List Nat) : updQ f i k q i k = q := by unfold updQ; rw [if_pos ⟨rfl, rfl⟩]
theorem updQ_other (f : Nat → ByteArray → List Nat) {i i' : Nat} {k k' : ByteArray} (q : List Nat) (h : ¬ (i' = i ∧ k' = k)) : updQ f i k q i' k' = f i' k' := by unfold updQ; rw [if_neg h]
noncomputable def updC (f : Nat → Wc) (w : Nat) (x : Wc) : Nat → Wc := fun b => if b = w then x else f b
/-- One more stands in a queue. -/
theorem LkAt.putQ (h : LkAt B W T ml mh mw n s) {i : Nat} {k : ByteArray} {K w : Nat} {x : Wc} (hi : i < 3) (hk : s.lk k = some K) (hx : WtAt W w x) (hf : ∀ i k', i < 3 → w ∉ s.q i k') (hp : ∀ b c, s.pas b = some c → b ≠ w) (hB : B ≤ w) (hq : QAt X K (2 * i) (s.q i k ++ [w])) (hc : Cf W X (PutS K (2 * i) w (s.q i k))) :
    LkAt B X T ml mh mw n { s with q := updQ s.q i k (s.q i k ++ [w]), con := updC s.con w x } := by
  have hKx : K ≠ w := h.kx hk hx
  have hKT : K ≠ T := h.kT hk
  have hwT : w ≠ T := h.xT hx
  have hcon : ∀ y, y ≠ w → updC s.con w x y = s.con y := fun y hy => by unfold updC; rw [if_neg hy]
  have hconw : updC s.con w x w = x := by unfold updC; rw [if_pos rfl]
  have nq : ∀ y, y ∈ s.q i k → WtAt W y (s.con y) := fun y hy => h.wc i k y hi hy
  -- no map's block is written
  have nM : ∀ {κ : Type} {Y : Ky κ} {mk : Option Nat → Value} {M n' : Nat} {o : κ → Option Nat}, MAt Y mk W M n' o → ∀ j, ¬ PutS K (2 * i) w (s.q i k) M j := fun hM j c => by
    rcases c with ⟨c, _⟩ | ⟨c, _⟩ | ⟨c, _⟩
    · exact hM.ne (h.qa k K hk 0 (by decide)).f c
    · exact hM.ne hx.c0 c
    · exact hM.ne (nq _ c).c0 rfl
  have nT : ∀ j, ¬ PutS K (2 * i) w (s.q i k) T j := fun j c => by
    rcases c with ⟨c, _⟩ | ⟨c, _⟩ | ⟨c, _⟩
    · exact hKT c.symm
    · exact hwT c.symm
    · exact h.xT (nq _ c) rfl
  -- another waiter's first three cells aren't, nor are the links of those that stand elsewhere
  have nC : ∀ y c', WtAt W y c' → ∀ j, j < 3 → ¬ PutS K (2 * i) w (s.q i k) y j := fun y c' hy j hj c => by
    rcases c with ⟨c, _⟩ | ⟨_, c⟩ | ⟨_, c⟩
    · exact h.kx hk hy c.symm
    · omega
    · omega
  exact { h with
    t0 := hc.cell _ _ _ (nT 0) h.t0
    t1 := hc.cell _ _ _ (nT 1) h.t1
    t2 := hc.cell _ _ _ (nT 2) h.t2
    m0 := h.m0.of_block (hc.block ml h.m0.lt (nM h.m0))
    m1 := h.m1.of_block (hc.block mh h.m1.lt (nM h.m1))
    m2 := h.m2.of_block (hc.block mw h.m2.lt (nM h.m2))
    md := fun o m e => (h.md o m e).of_block (hc.block m (h.md o m e).lt (nM (h.md o m e)))
    qa := fun k' K' e j hj => by
      show QAt X K' (2 * j) (updQ s.q i k (s.q i k ++ [w]) j k')
      by_cases c : j = i ∧ k' = k
      · obtain ⟨rfl, rfl⟩ := c
        have e : s.lk k' = some K' := e
        rw [hk] at e
        injection e with e
        subst e
        rw [updQ_same]
        exact hq
      · rw [updQ_other _ _ c]
        have nS : ∀ y, y ∈ s.q j k' → ¬ PutS K (2 * i) w (s.q i k) y 3 ∧ ¬ PutS K (2 * i) w (s.q i k) y 4 := fun y hy => by
          have hyw : y ≠ w := fun e2 => hf j k' hj (e2 ▸ hy)
          have hyK : y ≠ K := fun e2 => h.kx hk (h.wc j k' y hj hy) e2.symm
          have hyq : y ∉ s.q i k := fun c2 => by
            have := h.qd j i k' k y hj hi hy c2
            exact c this
          constructor <;> (intro c2; rcases c2 with ⟨c2, _⟩ | ⟨c2, _⟩ | ⟨c2, _⟩)
          · exact hyK c2
          · exact hyw c2
          · exact hyq c2
          · exact hyK c2
          · exact hyw c2
          · exact hyq c2
        have nK : ∀ d, d < 2 → ¬ PutS K (2 * i) w (s.q i k) K' (2 * j + d) := fun d hd c2 => by
          rcases c2 with ⟨c2, c3⟩ | ⟨c2, _⟩ | ⟨c2, _⟩
          · have : k' = k := h.li k' k K (c2 ▸ e) hk
            exact c ⟨by omega, this⟩
          · exact h.kx e hx c2
          · exact h.kx e (nq _ c2) rfl
        exact (h.qa k' K' e j hj).keep hc ⟨nK 0 (by decide), nK 1 (by decide)⟩ nS
    qn := fun k' e j => by
      show updQ s.q i k (s.q i k ++ [w]) j k' = []
      have e : s.lk k' = none := e
      have : ¬ (j = i ∧ k' = k) := fun c => by rw [c.2, hk] at e; cases e
      rw [updQ_other _ _ this]
      exact h.qn k' e j
    wc := fun j k' y hj hy => by
      show WtAt X y (updC s.con w x y)
      by_cases e : y = w
      · rw [e, hconw]
        exact hx.keep hc (nC w x hx)
      · rw [hcon y e]
        have hy2 : y ∈ s.q j k' := by
          have hy : y ∈ updQ s.q i k (s.q i k ++ [w]) j k' := hy
          by_cases c : j = i ∧ k' = k
          · obtain ⟨rfl, rfl⟩ := c
            rw [updQ_same] at hy
            rcases List.mem_append.1 hy with q | q
            · exact q
            · exact absurd (List.mem_singleton.1 q) e
          · rw [updQ_other _ _ c] at hy; exact hy
        exact (h.wc j k' y hj hy2).keep hc (nC y _ (h.wc j k' y hj hy2))
    qd := fun a b k1 k2 y ha hb h1 h2 => by
      have cases1 : ∀ a k1, a < 3 → y ∈ updQ s.q i k (s.q i k ++ [w]) a k1 → (y = w ∧ a = i ∧ k1 = k) ∨ (y ≠ w ∧ y ∈ s.q a k1) := fun a k1 ha h1 => by
        by_cases c : a = i ∧ k1 = k
        · obtain ⟨rfl, rfl⟩ := c
          rw [updQ_same] at h1
          rcases List.mem_append.1 h1 with q | q
          · exact .inr ⟨fun e => hf a k1 ha (e ▸ q), q⟩
          · exact .inl ⟨List.mem_singleton.1 q, rfl, rfl⟩
        · rw [updQ_other _ _ c] at h1
          exact .inr ⟨fun e => hf a k1 ha (e ▸ h1), h1⟩
      rcases cases1 a k1 ha h1 with ⟨e1, e2, e3⟩ | ⟨e1, e2⟩ <;> rcases cases1 b k2 hb h2 with ⟨d1, d2, d3⟩ | ⟨d1, d2⟩
      · exact ⟨by rw [e2, d2], by rw [e3, d3]⟩
      · exact absurd e1 d1
      · exact absurd d1 e1
      · exact h.qd a b k1 k2 y ha hb e2 d2
    bw := fun j k' y hj hy => by
      have hy : y ∈ updQ s.q i k (s.q i k ++ [w]) j k' := hy
      by_cases c : j = i ∧ k' = k
      · obtain ⟨rfl, rfl⟩ := c
        rw [updQ_same] at hy
        rcases List.mem_append.1 hy with q | q
        · exact h.bw j k' y hj q
        · rw [List.mem_singleton.1 q]; exact hB
      · rw [updQ_other _ _ c] at hy; exact h.bw j k' y hj hy
    ps := (h.ps.cf hc (fun b c e j c2 => by
      rcases c2 with ⟨c2, _⟩ | ⟨c2, _⟩ | ⟨c2, _⟩
      · exact h.ps.pk b c k K e hk c2
      · exact hp b c e c2
      · exact h.ps.px b c i k b e hi c2 rfl)).setQ fun b c j k' y e hj hy => by
      have hy : y ∈ updQ s.q i k (s.q i k ++ [w]) j k' := hy
      by_cases c : j = i ∧ k' = k
      · obtain ⟨rfl, rfl⟩ := c
        rw [updQ_same] at hy
        rcases List.mem_append.1 hy with q | q
        · exact h.ps.px b _ j k' y e hj q
        · rw [List.mem_singleton.1 q]; exact hp b _ e
      · rw [updQ_other _ _ c] at hy; exact h.ps.px b _ j k' y e hj hy }
end
end Go.Proofs.Ytgabdlnbencglaa
