/-
  A TABLE OF LOCKS: pass, the walk.
-/
import Derived.Test.YtgabdlnbencglaaLkRide
namespace Go.Proofs.Ytgabdlnbencglaa
open Go.RowKit
theorem own0 {W : World} {B : Nat} {e : TypeId} {sz : Nat} {v : Value} {n : Nat} {xs : List Value} (h : W.ownsRow B e sz v n xs) (hz : 0 < sz) (h0 : n = 0 → v = .slice none 0 0) : ∀ g, v.ownBlock = some g → (∃ u, W.cell? ⟨g, 0, none⟩ = some u) ∧ B ≤ g ∧ ∃ c, W.heap[g]? = some c := fun g hg => by
  rcases h.2 with ⟨hv, _⟩ | ⟨g', cap, cur, hv, hB, hh, h1, h2, h3, h4⟩
  · rw [hv] at hg; cases hg
  · rw [hv] at hg
    injection hg with hg
    have hg : g' = g := hg
    subst hg
    have hn : n ≠ 0 := fun e => by rw [h0 e] at hv; cases hv
    have hs : 0 < cur.size := by
      have : 1 * 1 ≤ cap * sz := Nat.mul_le_mul (by omega) (by omega)
      omega
    exact ⟨⟨cur[0], by simp [World.cell?, hh, hs]⟩, hB, _, hh⟩
section
variable {B : Nat} {W X : World} {T ml mh mw n : Nat} {s : Lk}
/-- What pass leaves. -/
def PgP (B : Nat) (T ml mh mw n : Nat) (s : Lk) (ks : List ByteArray) (W : World) (e : Ending) (W' : World) : Prop :=
  ∃ v os s', e = .returned v ∧ RowI W' W.heap.size v os ∧ (os = [] → v = .slice none 0 0) ∧ PassL s ks os s' ∧ LkAt B W' T ml mh mw (n + 3 * os.length) s' ∧ (∀ g, v.ownBlock = some g → Nt s' T g) ∧ Below B W W'
/-- Where the walk stands: so many keys are done; of the next one so many steps. -/
structure PsW (B : Nat) (W wr : World) (T ml mh mw n : Nat) (s : Lk) (ks : List ByteArray) (v : Value) (os o2 : List Int) (k : ByteArray) (s1 s2 : Lk) : Prop where
  fp : PassL s ks os s1
  fq : PassK k s1 o2 s2
  ft : LkAt B wr T ml mh mw (n + 3 * (os ++ o2).length) s2
  fv : RowI wr W.heap.size v (os ++ o2)
  f0 : os ++ o2 = [] → v = .slice none 0 0
  fn : ∀ g, v.ownBlock = some g → Nt s2 T g
  fb : Below B W wr
theorem PsW.below {wr : World} {ks : List ByteArray} {v : Value} {os o2 : List Int} {k : ByteArray} {s1 s2 : Lk} (h : PsW B W wr T ml mh mw n s ks v os o2 k s1 s2) (hb : Below wr.heap.size wr X) : PsW B W X T ml mh mw n s ks v os o2 k s1 s2 :=
  { h with
    ft := h.ft.below hb
    fv := ownsRow_of h.fv (fun g e => hb.block g (by
      obtain ⟨⟨u, hu⟩, _⟩ := own0 h.fv (by decide) (fun e => h.f0 (List.length_eq_zero_iff.1 e)) g e
      exact block_lt (p := ⟨g, 0, none⟩) hu))
    fb := h.fb.trans (hb.mono h.ft.lts) }
theorem RowI.len {v : Value} {ts : List Int} (h : RowI W B v ts) : ∃ a c, v = .slice a ts.length c := by
  rcases h.2 with ⟨hv, hn⟩ | ⟨g, cp, cur, hv, _⟩
  · exact ⟨none, 0, by rw [hv, hn]⟩
  · exact ⟨_, cp, hv⟩
theorem append_i2 {w : World} {ops : Array Oper} {rest : List Oper} {o : Oper} {a : Act} {Q : Exit → Act → World → Prop} (hgd : o.guard = none) (s x : Operand)
    (ho : o.op = .call { callee := .builtin .append, args := #[s, x], argTypes := #[32, 32] })
    (B : Nat) (v : Value) (ts : List Int) (ad : Addr) (t : Int) (c : Nat) (hs : a.eval s = v) (hown : RowI w B v ts) (hx : a.eval x = .slice (some ad) 1 c) (hc : w.cell? (ad.add 0) = some (.int .i64 t)) (h10 : ts.length ≤ 1000000) (hB : B ≤ w.heap.size)
    (h : ∀ v' w', RowI w' B v' (ts ++ [t]) → w.grownBy w' v.ownBlock → (v'.ownBlock = v.ownBlock ∨ v'.ownBlock = some w.heap.size) → wpList Try.prog ops Q rest (a.put o.dst v') w') :
    wpList Try.prog ops Q (o :: rest) a w := by
  obtain ⟨i0, hi, hzz⟩ := Option.map_eq_some_iff.1 infoI
  simp only [Prod.mk.injEq] at hzz
  obtain ⟨hz0, hz1, hz2⟩ := hzz
  refine wpList_append_own_at _ hgd s x 32 ho B 3 i0 (.int .i64 0) 1 8 Try.underlying32 hi hz0 hz1 hz2 rfl (by decide) v ts.length (ts.map (Value.int .i64)) hs hown ad 1 c [.int .i64 t] hx rfl ?_ ?_ (by unfold maxLen; omega) (by omega) hB (fun v' w' h1 h2 _ h4 => h v' w' ?_ h2 h4)
  · intro j u' hj
    match j, hj with
    | 0, hj => simp at hj; subst hj; exact hc
  · intro u' hu; simp at hu; subst hu; rfl
  · unfold RowI
    rw [List.length_append, List.map_append]; exact h1
/-- The row of owners grows by one. -/
theorem PsW.step {wr wx wy : World} {ks : List ByteArray} {v v' : Value} {os o2 : List Int} {k : ByteArray} {s1 s2 s3 : Lk} {w : Nat} (h : PsW B W wr T ml mh mw n s ks v os o2 k s1 s2) (hs : Step k s2 w s3)
    (t : LkAt B wx T ml mh mw (n + 3 * (os ++ o2).length + 3) s3) (hb : Below B W wx) (nt : ∀ g, v.ownBlock = some g → Nt s3 T g) (hv : RowI wx W.heap.size v (os ++ o2)) (hr : RowI wy W.heap.size v' ((os ++ o2) ++ [(s2.con w).ow])) (hg : wx.grownBy wy v.ownBlock) (hv' : v'.ownBlock = v.ownBlock ∨ v'.ownBlock = some wx.heap.size) (hBW : B ≤ W.heap.size) :
    PsW B W wy T ml mh mw n s ks v' os (o2 ++ [(s2.con w).ow]) k s1 s3 := by
  obtain ⟨t2, b2, nt2⟩ := t.appended (v := v) (v' := v') (fun g e => by
    obtain ⟨hu, hB, _⟩ := own0 hv (by decide) (fun e => h.f0 (List.length_eq_zero_iff.1 e)) g e
    exact ⟨nt g e, hu, Nat.le_trans hBW hB⟩) hg hv'
  rw [List.append_assoc] at hr
  refine ⟨h.fp, .snoc h.fq hs, ?_, hr, fun e => by simp at e, nt2, hb.trans b2⟩
  rw [← List.append_assoc, List.length_append, List.length_singleton, Nat.mul_add, Nat.mul_one, ← Nat.add_assoc]
  exact t2
end
end Go.Proofs.Ytgabdlnbencglaa
