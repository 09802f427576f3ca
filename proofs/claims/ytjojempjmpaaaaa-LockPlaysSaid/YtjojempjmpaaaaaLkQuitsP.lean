/-
  WHO ASKS, MUST WAIT AND QUITS LEAVES ALL AS IT WAS.
-/
import Derived.Test.YtjojempjmpaaaaaLkActs
import Derived.Laws.StructEq
namespace Go.Proofs.Ytjojempjmpaaaaa
open Go.RowKit
theorem keysL_one (k : ByteArray) : keysL [k] = [k] := by
  have h1 := keysL_nd [k]
  have h2 : ∀ x, x ∈ keysL [k] ↔ x = k := fun x => by rw [keysL_mem]; simp
  cases e : keysL [k] with
  | nil => have := (h2 k).2 rfl; rw [e] at this; cases this
  | cons a t =>
    rw [e] at h1 h2
    obtain rfl := (h2 a).1 (List.mem_cons_self ..)
    cases t with
    | nil => rfl
    | cons b r =>
      exfalso
      have := (h2 b).1 (by simp)
      subst this
      exact (List.nodup_cons.1 h1).1 (List.mem_cons_self ..)
theorem PassK.stuck {k : ByteArray} {s s' : Lk} {os : List Int} (hs : Stuck k s) (h : PassK k s os s') : os = [] ∧ s' = s := by
  induction h with
  | nil => exact ⟨rfl, rfl⟩
  | snoc _ st ih =>
    obtain ⟨_, rfl⟩ := ih
    exfalso
    cases st with
    | up r h0 e1 e2 e3 =>
      have := hs _ (by rw [e1]; rfl)
      rw [e3] at this; cases this
    | new r m e1 e2 e3 =>
      have := hs _ (by rw [e1, e2]; rfl)
      rw [e3] at this; cases this
theorem PassL.empty {s s' : Lk} {ps : List Int} (h : PassL s [] ps s') : ps = [] ∧ s' = s := by
  generalize hk : ([] : List ByteArray) = ks at h
  cases h with
  | nil => exact ⟨rfl, rfl⟩
  | snoc _ _ _ => simp at hk
theorem PassL.one {s s' : Lk} {k : ByteArray} {ps : List Int} (h : PassL s [k] ps s') : ∃ s1, PassK k s ps s1 ∧ Stuck k s1 ∧ s' = finS s1 k := by
  generalize hk : [k] = ks at h
  cases h with
  | nil => cases hk
  | @snoc ks os o2 k2 s1 s2 h1 h2 h3 =>
    have e : ks = [] ∧ k2 = k := by
      have hl := congrArg List.length hk
      rw [List.length_append, List.length_singleton, List.length_singleton] at hl
      have : ks = [] := List.length_eq_zero_iff.1 (by omega)
      subst this
      simp at hk
      exact ⟨rfl, hk.symm⟩
    obtain ⟨rfl, rfl⟩ := e
    obtain ⟨rfl, rfl⟩ := h1.empty
    exact ⟨s2, h2, h3, rfl⟩
/-- What is as it was. -/
structure Was (s s2 : Lk) : Prop where
  hd : s2.hd = s.hd
  wt : s2.wt = s.wt
  q : ∀ i k, i < 3 → s2.q i k = s.q i k
  c : ∀ i k y, i < 3 → y ∈ s.q i k → s2.con y = s.con y
theorem wait_back {s : Lk} {i w : Nat} {x : Wc} {k : ByteArray} {K : Nat} (hi : i = 1 ∨ i = 2) (hw : ∀ i k', i < 3 → w ∉ s.q i k') (ht : s.wt x.ow = none) (hg1 : LkC (waitG (lockS s k K) i w x)) : Was s (leftT (waitG (lockS s k K) i w x) x.ow) := by
  have he : (waitG (lockS s k K) i w x).q i x.k = s.q i x.k ++ w :: [] := updQ_same _ _ _ _
  have ho : ((waitG (lockS s k K) i w x).con w).ow = x.ow := by show (updC s.con w x w).ow = _; rw [updC_same]
  rw [leftT_some hg1 hi he ho]
  refine ⟨rfl, ?_, fun j k' hj => ?_, fun j k' y hj hy => updC_other _ _ (fun e => hw j k' hj (e ▸ hy))⟩
  · show updM (updM s.wt x.ow (some w)) x.ow none = s.wt
    funext o
    by_cases e : o = x.ow
    · rw [e, updM_same, ht]
    · rw [updM_other _ _ e, updM_other _ _ e]
  · show updQ (updQ s.q i x.k (s.q i x.k ++ [w])) i x.k (s.q i x.k ++ []) j k' = s.q j k'
    by_cases e : j = i ∧ k' = x.k
    · obtain ⟨rfl, rfl⟩ := e
      rw [updQ_same, List.append_nil]
    · rw [updQ_other _ _ e, updQ_other _ _ e]
theorem Was.stuck {s s2 : Lk} (h : Was s s2) {k : ByteArray} (hs : Stuck k s) : Stuck k s2 := fun w hw => by
  rw [h.q 1 k (by decide), h.q 2 k (by decide)] at hw
  have hc : s2.con w = s.con w := by
    rcases List.mem_append.1 (List.mem_of_head? hw) with c | c
    · exact h.c 1 k w (by decide) c
    · exact h.c 2 k w (by decide) c
  rw [h.q 0 k (by decide), hc, freeB_congr (con := s.con) (fun y hy => h.c 0 k y (by decide) hy)]
  exact hs w hw
theorem was_pass {s s1 s2 : Lk} {k : ByteArray} {ps : List Int} (hs : Stuck k s) (h : Was s s1) (hp : PassL s1 (keysL [k]) ps s2) : ps = [] ∧ Was s s2 := by
  rw [keysL_one] at hp
  obtain ⟨s3, h1, _, rfl⟩ := hp.one
  obtain ⟨rfl, rfl⟩ := h1.stuck (h.stuck hs)
  exact ⟨rfl, ⟨h.hd, h.wt, h.q, h.c⟩⟩
/-- Behind a busy Ask, Quit lets nobody in. -/
theorem quits_back {s s1 s2 : Lk} {o : Int} {k : ByteArray} {b : Bool} {e : Int} {c w : Nat} {ps : List Int} (hg : Good s) (hcw : Wn s c) (hr : AskR s o k b e s1) (he : e = 10) (hk : k.size ≤ 100) (hwf : (Lit.int .i64 o).wf = true) (hw : s1.wt o = some w) (hp : PassL (leftT s1 o) (keysL [(s1.con w).k]) ps s2) :
    ps = [] ∧ Was s s2 ∧ (lineO s1 k).length = (lineO s k).length + 1 := by
  obtain ⟨g1, _, _⟩ := hr.good hg hcw hk hwf
  cases hr with
  | neg h => omega
  | state w h h2 => omega
  | has h0 h1 h2 h3 h4 => omega
  | up K h0 h1 h2 h3 h4 h5 h6 => omega
  | hold K m w h1 h2 h3 h4 h5 h6 => omega
  | upw K h0 v h1 h2 h3 h4 h5 h6 h7 =>
    have hw : updM s.wt o (some v) o = some w := hw
    rw [updM_same] at hw
    injection hw with hw
    subst hw
    have hck : ((waitG (lockS s k K) 1 v ⟨k, b, o⟩).con v).k = k := by show (updC s.con v ⟨k, b, o⟩ v).k = k; rw [updC_same]
    rw [hck] at hp
    obtain ⟨q1, q2⟩ := was_pass (hg.st k).f (wait_back (.inl rfl) h7 h2 g1.c) hp
    refine ⟨q1, q2, ?_⟩
    have e1 : (waitG (lockS s k K) 1 v ⟨k, b, o⟩).q 1 k = s.q 1 k ++ [v] := updQ_same _ _ _ _
    have e2 : (waitG (lockS s k K) 1 v ⟨k, b, o⟩).q 2 k = s.q 2 k := waitG_q (fun c => absurd c.1 (by decide))
    unfold lineO
    rw [e1, e2]
    simp; omega
  | wait K v h1 h2 h3 h4 h5 =>
    have hw : updM s.wt o (some v) o = some w := hw
    rw [updM_same] at hw
    injection hw with hw
    subst hw
    have hck : ((waitG (lockS s k K) 2 v ⟨k, b, o⟩).con v).k = k := by show (updC s.con v ⟨k, b, o⟩ v).k = k; rw [updC_same]
    rw [hck] at hp
    obtain ⟨q1, q2⟩ := was_pass (hg.st k).f (wait_back (.inr rfl) h5 h2 g1.c) hp
    refine ⟨q1, q2, ?_⟩
    have e1 : (waitG (lockS s k K) 2 v ⟨k, b, o⟩).q 2 k = s.q 2 k ++ [v] := updQ_same _ _ _ _
    have e2 : (waitG (lockS s k K) 2 v ⟨k, b, o⟩).q 1 k = s.q 1 k := waitG_q (fun c => absurd c.1 (by decide))
    unfold lineO
    rw [e1, e2]
    simp; omega
theorem Was.line {s s2 : Lk} (h : Was s s2) (k : ByteArray) : lineO s2 k = lineO s k := by
  unfold lineO
  rw [h.q 1 k (by decide), h.q 2 k (by decide)]
  refine List.map_congr_left (fun y hy => ?_)
  rcases List.mem_append.1 hy with c | c
  · rw [h.c 1 k y (by decide) c]
  · rw [h.c 2 k y (by decide) c]
theorem Was.edOfE {s s2 : Lk} (h : Was s s2) (k : ByteArray) : edOf s2 k = edOf s k := by
  unfold edOf
  rw [h.q 0 k (by decide), h.q 1 k (by decide), h.q 2 k (by decide)]
  refine edK_congr _ _ (fun y hy => ?_)
  rcases List.mem_append.1 hy with c | c
  · exact h.c 0 k y (by decide) c
  · rcases List.mem_append.1 c with c | c
    · exact h.c 1 k y (by decide) c
    · exact h.c 2 k y (by decide) c
theorem Was.waitedE {s s2 : Lk} (h : Was s s2) (hc : LkC s) (k : ByteArray) : waited s2 k ↔ waited s k := by
  have e : ∀ o w, s.wt o = some w → s2.con w = s.con w := fun o w hw => by
    obtain ⟨_, i, hi, hq⟩ := hc.ok.w1 o w hw
    exact h.c i _ w (lt3 hi) hq
  unfold waited
  rw [h.wt]
  constructor
  · rintro ⟨o, w, h1, h2⟩
    exact ⟨o, w, h1, by rw [← e o w h1]; exact h2⟩
  · rintro ⟨o, w, h1, h2⟩
    exact ⟨o, w, h1, by rw [e o w h1]; exact h2⟩
theorem Was.edges {s s2 : Lk} (h : Was s s2) (hc : LkC s) {kl kl2 : List ByteArray} (h1 : ∀ k, k ∈ kl ↔ waited s k) (h2 : ∀ k, k ∈ kl2 ↔ waited s2 k) : (keysL kl2).flatMap (edOf s2) = (keysL kl).flatMap (edOf s) := by
  rw [keysL_congr (a := kl2) (b := kl) (fun k => (h2 k).trans ((h.waitedE hc k).trans (h1 k).symm))]
  congr 1
  funext k
  exact h.edOfE k
theorem Was.holds {s s2 : Lk} (h : Was s s2) {o : Int} {ks ks2 : List ByteArray} (n1 : ks.Nodup) (n2 : ks2.Nodup) (h1 : ∀ k, k ∈ ks ↔ s.hd o k ≠ none) (h2 : ∀ k, k ∈ ks2 ↔ s2.hd o k ≠ none) : ks2.length = ks.length :=
  ((List.perm_ext_iff_of_nodup n2 n1).2 (fun k => by rw [h2 k, h1 k, h.hd])).length_eq
theorem AskR.busy {s s1 : Lk} {o : Int} {k : ByteArray} {b : Bool} {e : Int} (hr : AskR s o k b e s1) (he : e = 10) : ∃ w, s1.wt o = some w := by
  cases hr with
  | neg h => omega
  | state w h h2 => omega
  | has h0 h1 h2 h3 h4 => omega
  | up K h0 h1 h2 h3 h4 h5 h6 => omega
  | hold K m w h1 h2 h3 h4 h5 h6 => omega
  | upw K h0 v h1 h2 h3 h4 h5 h6 h7 => exact ⟨v, updM_same _ _ _⟩
  | wait K v h1 h2 h3 h4 h5 => exact ⟨v, updM_same _ _ _⟩
theorem AskR.lineLen {s s1 : Lk} {o : Int} {k : ByteArray} {b : Bool} {e : Int} (hr : AskR s o k b e s1) (he : e = 10) : (lineO s1 k).length = (lineO s k).length + 1 := by
  cases hr with
  | neg h => omega
  | state w h h2 => omega
  | has h0 h1 h2 h3 h4 => omega
  | up K h0 h1 h2 h3 h4 h5 h6 => omega
  | hold K m w h1 h2 h3 h4 h5 h6 => omega
  | upw K h0 v h1 h2 h3 h4 h5 h6 h7 =>
    have e1 : (waitG (lockS s k K) 1 v ⟨k, b, o⟩).q 1 k = s.q 1 k ++ [v] := updQ_same _ _ _ _
    have e2 : (waitG (lockS s k K) 1 v ⟨k, b, o⟩).q 2 k = s.q 2 k := waitG_q (fun c => absurd c.1 (by decide))
    unfold lineO
    rw [e1, e2]
    simp; omega
  | wait K v h1 h2 h3 h4 h5 =>
    have e1 : (waitG (lockS s k K) 2 v ⟨k, b, o⟩).q 2 k = s.q 2 k ++ [v] := updQ_same _ _ _ _
    have e2 : (waitG (lockS s k K) 2 v ⟨k, b, o⟩).q 1 k = s.q 1 k := waitG_q (fun c => absurd c.1 (by decide))
    unfold lineO
    rw [e1, e2]
    simp; omega
/-- Rows, as they are read. -/
theorem RowI.form {W : World} {B : Nat} {v : Value} {ts : List Int} (h : RowI W B v ts) : ∃ a c, v = .slice a ts.length c ∧ ∀ X : World, (∀ g, v.ownBlock = some g → X.heap[g]? = W.heap[g]?) → IntsAt X a ts := by
  by_cases e : ts.length = 0
  · obtain ⟨a, c, hv⟩ := h.len
    exact ⟨a, c, hv, fun _ _ => .inl (List.length_eq_zero_iff.1 e)⟩
  · obtain ⟨g, cap, hv, _, hc⟩ := h.cells (by omega)
    refine ⟨_, cap, hv, fun X hX => .inr ⟨g, 0, rfl, fun i hi => ?_⟩⟩
    rw [Nat.zero_add, World.cell?_of_block (a := ⟨g, i, none⟩) (hX g (by rw [hv]; rfl))]
    exact hc i hi
theorem flatE_get (l : List (Int × Int)) : ∀ i (h : i < l.length), (flatE l)[i * 2]? = some (.int .i64 l[i].1) ∧ (flatE l)[i * 2 + 1]? = some (.int .i64 l[i].2) := by
  unfold flatE
  induction l with
  | nil => intro i h; simp at h
  | cons a l ih =>
    intro i h
    rw [List.flatMap_cons]
    match i, h with
    | 0, _ => exact ⟨rfl, rfl⟩
    | i + 1, h =>
      have h2 : i < l.length := by rw [List.length_cons] at h; omega
      obtain ⟨e1, e2⟩ := ih i h2
      have l2 : (encE a).length = 2 := rfl
      rw [List.getElem?_append_right (by rw [l2]; omega), List.getElem?_append_right (by rw [l2]; omega), l2, show (i + 1) * 2 - 2 = i * 2 by omega, show (i + 1) * 2 + 1 - 2 = i * 2 + 1 by omega]
      exact ⟨e1, e2⟩
theorem flatE_len (l : List (Int × Int)) : (flatE l).length = l.length * 2 := by
  unfold flatE
  induction l with
  | nil => rfl
  | cons a t ih => rw [List.flatMap_cons, List.length_append, ih, List.length_cons]; show 2 + _ = _; omega
theorem RowE.form {W : World} {B : Nat} {v : Value} {l : List (Int × Int)} (h : RowE W B v l) : ∃ a c, v = .slice a l.length c ∧ ∀ i (hi : i < l.length), ∃ g, a = some ⟨g, 0, none⟩ ∧ v.ownBlock = some g ∧ ∀ X : World, X.heap[g]? = W.heap[g]? → X.cell? ⟨g, i * 2, none⟩ = some (.int .i64 l[i].1) ∧ X.cell? ⟨g, i * 2 + 1, none⟩ = some (.int .i64 l[i].2) := by
  rcases h.2 with ⟨hv, hn⟩ | ⟨g, cap, cur, hv, _⟩
  · exact ⟨none, 0, by rw [hv, hn], fun i hi => by omega⟩
  · refine ⟨some ⟨g, 0, none⟩, cap, hv, fun i hi => ⟨g, rfl, by rw [hv]; rfl, fun X hX => ?_⟩⟩
    have h' : W.ownsRow B 54 2 (.slice (some ⟨g, 0, none⟩) l.length cap) l.length (flatE l) := hv ▸ h
    obtain ⟨e1, e2⟩ := flatE_get l i hi
    rw [World.cell?_of_block (a := ⟨g, i * 2, none⟩) hX, World.cell?_of_block (a := ⟨g, i * 2 + 1, none⟩) hX, World.ownsRow.cellAt h' _ (by omega), World.ownsRow.cellAt h' _ (by omega)]
    exact ⟨e1, e2⟩
theorem RowCl.form {W : World} {B : Nat} {v : Value} {l : List Cl} (h : RowCl W B v l) : ∃ a c, v = .slice a l.length c := by
  rcases h.2 with ⟨hv, hn⟩ | ⟨g, cap, cur, hv, _⟩
  · exact ⟨none, 0, by rw [hv, hn]⟩
  · exact ⟨_, cap, hv⟩
theorem rowE_len {W : World} {B : Nat} {v : Value} {l : List (Int × Int)} (h : RowE W B v l) : l.length ≤ maxLen := by
  rcases h.2 with ⟨_, hn⟩ | ⟨g, cap, cur, _, _, _, h1, h2, _⟩
  · rw [hn]; exact Nat.zero_le _
  · exact Nat.le_trans h1 h2
theorem neq_edge (a b : Int) (W : World) : (binOp .neq 54 (.agg #[.int .i64 a, .int .i64 b]) (.agg #[.int .i64 a, .int .i64 b])).run Try.prog W = .ok (.bool false) W := by
  go_simp
section
variable {w0 wr : World} {T ml mh mw n j : Nat} {s : Lk} {v u : Value}
theorem Ac.withP (h : Ac s n j) (p : Nat → Option Obj) : Ac (withP s p) n j := ⟨⟨h.g.c.withP p, fun k => ⟨(h.g.st k).l, (h.g.st k).f⟩⟩, h.w, h.b⟩
/-- A row stays beside the table for good. -/
theorem AcW.take (h : AcW w0 wr T ml mh mw n s j u) : AcW w0 wr T ml mh mw n (Go.Proofs.Ytjojempjmpaaaaa.withP s (rideP s.pas u wr)) j (.slice none 0 0) := ⟨h.ride, h.a.withP _, h.bw, fun g e => by cases e⟩
theorem AcW.bear (h : AcW w0 wr T ml mh mw n s j (.slice none 0 0)) (hv : ∀ g, v.ownBlock = some g → Nt s T g ∧ ∃ i u, wr.cell? ⟨g, i, none⟩ = some u) : AcW w0 wr T ml mh mw n s j v := ⟨h.t, h.a, h.bw, hv⟩
end
end Go.Proofs.Ytjojempjmpaaaaa
