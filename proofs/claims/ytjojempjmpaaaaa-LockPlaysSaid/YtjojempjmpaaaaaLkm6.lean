/-
  A TABLE OF LOCKS: pass, of any keys, any many of which are passed on.
  SORTED TEXTS, EACH ONCE: sorted and compacted is the same as put in one by one.
  A TABLE OF LOCKS: rows beside it stay; a row grows.
  A TABLE OF LOCKS: pass, the walk.
-/
import Derived.Test.YtjojempjmpaaaaaLkm4
import Derived.Test.YtjojempjmpaaaaaLkm5
import Derived.Lib.SlicesCompact
namespace Go.Proofs.Ytjojempjmpaaaaa
open Go.RowKit
section
variable {B : Nat} {W X : World} {T ml mh mw n : Nat} {s : Lk}
theorem LkAt.delLock (h : LkAt B W T ml mh mw n s) {k : ByteArray} (hq : ∀ i, s.q i k = []) (hm : MAt sKy pV X ml n (updM s.lk k none)) (hg : W.grownBy X (some ml)) :
    LkAt B X T ml mh mw n { s with lk := updM s.lk k none } := by
  obtain ⟨k0, k1, k2, k3, k4, k5⟩ := h.kq h.m0.no_cell hg
  have hb : ∀ b, b < W.heap.size → b ≠ ml → X.heap[b]? = W.heap[b]? := fun b hb hn => hg.block b hb (fun e => hn (by injection e))
  have key : ∀ k' K, updM s.lk k none k' = some K → k' ≠ k ∧ s.lk k' = some K := fun k' K e => by
    rcases updM_cases e with ⟨_, c⟩ | ⟨c, d⟩
    · cases c
    · exact ⟨c, d⟩
  exact { h with
    t0 := k0
    t1 := k1
    t2 := k2
    m0 := hm
    m1 := h.m1.of_block (hb mh h.m1.lt h.mn.1.symm)
    m2 := h.m2.of_block (hb mw h.m2.lt h.mn.2.1.symm)
    md := fun o m e => (h.md o m e).of_block (hb m (h.md o m e).lt (h.hne o m e).1)
    qa := fun k' K e i hi => k3 k' K (key k' K e).2 i hi
    qn := fun k' e i => by
      by_cases c : k' = k
      · rw [c]; exact hq i
      · have e : updM s.lk k none k' = none := e
        rw [updM_other _ _ c] at e
        exact h.qn k' e i
    wc := k4
    ps := k5.setK fun b c k' K e e2 => h.ps.pk b c k' K e (key k' K e2).2
    li := fun k1 k2 K e e' => h.li k1 k2 K (key k1 K e).2 (key k2 K e').2
    bk := fun k' K e => h.bk k' K (key k' K e).2 }
/-- A step of pass: who leaves, comes to hold. -/
theorem step_at (h : LkAt B W T ml mh mw n s) (hc : LkC s) {k : ByteArray} {w : Nat} (hf : (s.q 1 k ++ s.q 2 k).head? = some w) (hfr : freeB s.con (s.con w) (s.q 0 k) = true) (hn : n ≤ 10000000) :
    ∃ s1, (Calls Try.prog 35 #[.pointer (some ⟨T, 0, none⟩), .pointer (some ⟨w, 0, none⟩)] W fun e W' => e = .returned (.tuple #[]) ∧ LkAt B W' T ml mh mw (n + 1) s1 ∧ Fw W' w (s.con w) ∧ Below B W W') ∧
      ∀ X, LkAt B X T ml mh mw (n + 1) s1 → Fw X w (s.con w) → Calls Try.prog 32 #[.pointer (some ⟨T, 0, none⟩), .pointer (some ⟨w, 0, none⟩)] X fun e W' => e = .returned (.tuple #[]) ∧ ∃ s2, Step k s w s2 ∧ LkAt B W' T ml mh mw (n + 3) s2 ∧ Below B X W' ∧ W'.cell? ⟨w, 2, none⟩ = some (.int .i64 (s.con w).ow) := by
  rcases head_of hf with ⟨r, e1⟩ | ⟨e1, r, e2⟩
  · have hw : w ∈ s.q 1 k := by rw [e1]; exact List.mem_cons_self ..
    obtain ⟨ck, ks, wf⟩ := hc.ok.ck 1 k w (by decide) hw
    obtain ⟨K, hK⟩ := h.lk_some hw
    obtain ⟨h0, e0⟩ := Option.ne_none_iff_exists'.1 (hc.ok.r1 k w hw)
    have hm0 := (hc.ok.h1 _ _ _ e0).1
    have hks : k.size ≤ maxLen := by unfold maxLen; omega
    obtain ⟨_, mem⟩ := hc.leave (i := 1) (.inl rfl) hw (nd_cons (hc.nd 1 k (by decide)) e1) (by have := hc.nd 1 k (by decide); rw [e1] at this; exact (List.nodup_cons.1 this).2)
    refine ⟨leftG s 1 k r (s.con w).ow, (leave_g h (i := 1) (q1 := []) (q2 := r) (.inl ⟨rfl, by rw [e0]; simp⟩) hK e1 ck hks wf).mono (fun e W' q => ⟨q.1, q.2.1, q.2.2.1, q.2.2.2.2⟩), fun X hX fX => ?_⟩
    have hmo : ∃ m, s.hm (s.con w).ow = some m := by
      cases e : s.hm (s.con w).ow with
      | none => rw [h.hn _ e k] at e0; cases e0
      | some m => exact ⟨m, rfl⟩
    obtain ⟨m, hm⟩ := hmo
    have q0 : (leftG s 1 k r (s.con w).ow).q 0 k = s.q 0 k := leftG_q (fun c => by cases c.1)
    refine (hold_up hX fX (fun i k' hi c => ((mem i k' w hi).1 c).2 rfl) (h0 := h0) (m := m) hm (by rw [ck]; exact e0) (by rw [ck, q0]; exact hm0) (by rw [ck]; show (s.lk k).isSome = true; rw [hK]; rfl) (by rw [ck]; exact hks) wf).mono ?_
    rintro e W' ⟨rfl, h2, b2, c2⟩
    exact ⟨rfl, _, .up r h0 e1 e0 hfr, h2.mono (by omega), b2, c2⟩
  · have hw : w ∈ s.q 2 k := by rw [e2]; exact List.mem_cons_self ..
    obtain ⟨ck, ks, wf⟩ := hc.ok.ck 2 k w (by decide) hw
    obtain ⟨K, hK⟩ := h.lk_some hw
    have e0 := hc.ok.r2 k w hw
    have hks : k.size ≤ maxLen := by unfold maxLen; omega
    obtain ⟨_, mem⟩ := hc.leave (i := 2) (.inr rfl) hw (nd_cons (hc.nd 2 k (by decide)) e2) (by have := hc.nd 2 k (by decide); rw [e2] at this; exact (List.nodup_cons.1 this).2)
    refine ⟨leftG s 2 k r (s.con w).ow, (leave_g h (i := 2) (q1 := []) (q2 := r) (.inr ⟨rfl, e0⟩) hK e2 ck hks wf).mono (fun e W' q => ⟨q.1, q.2.1, q.2.2.1, q.2.2.2.2⟩), fun X hX fX => ?_⟩
    have nf : ∀ i k', i < 3 → w ∉ (leftG s 2 k r (s.con w).ow).q i k' := fun i k' hi c => ((mem i k' w hi).1 c).2 rfl
    have hk2 : (leftG s 2 k r (s.con w).ow).lk (s.con w).k = some K := by rw [ck]; exact hK
    have hks2 : (s.con w).k.size ≤ maxLen := by rw [ck]; exact hks
    have hB := h.bw 2 k w (by decide) hw
    have hP : ∀ b c, s.pas b = some c → b ≠ w := fun b c e => h.ps.px b c 2 k w e (by decide) hw
    have key : ∀ {e : Ending} {W' : World}, HoP B T ml mh mw (n + 1) (leftG s 2 k r (s.con w).ow) w (s.con w) X e W' → e = .returned (.tuple #[]) ∧ ∃ s2, Step k s w s2 ∧ LkAt B W' T ml mh mw (n + 3) s2 ∧ Below B X W' ∧ W'.cell? ⟨w, 2, none⟩ = some (.int .i64 (s.con w).ow) := fun hp => by
      obtain ⟨e, m, h1, h2⟩ := hp
      refine ⟨e, _, .new r m e1 e2 hfr, h1, h2, ?_⟩
      have c2 := (h1.wc 0 k w (by decide) (by
        show w ∈ updQ (leftG s 2 k r (s.con w).ow).q 0 (s.con w).k ((leftG s 2 k r (s.con w).ow).q 0 (s.con w).k ++ [w]) 0 k
        rw [ck, updQ_same]; simp)).c2
      rw [show (heldS (leftG s 2 k r (s.con w).ow) m w (s.con w)).con w = s.con w from updC_same _ _ _] at c2
      exact c2
    cases hm : s.hm (s.con w).ow with
    | none => exact (hold_new hX fX nf hP hB hk2 hm hks2 wf (by unfold maxLen; omega)).mono (fun _ _ q => key q)
    | some m => exact (hold_in hX fX nf hP hB hk2 hm (by rw [ck]; exact e0) hks2 wf (by unfold maxLen; omega)).mono (fun _ _ q => key q)
end
end Go.Proofs.Ytjojempjmpaaaaa

namespace Go.Proofs.Ytjojempjmpaaaaa
open Go.RowKit
/-- Texts that rise. -/
def UpK (l : List (List UInt8)) : Prop := l.Pairwise (· < ·)
theorem upK_same {a b : List (List UInt8)} (ha : UpK a) (hb : UpK b) (h : ∀ x, x ∈ a ↔ x ∈ b) : a = b := by
  have na : a.Nodup := ha.imp (fun {x y} hxy e => by subst e; exact List.lt_irrefl _ hxy)
  have nb : b.Nodup := hb.imp (fun {x y} hxy e => by subst e; exact List.lt_irrefl _ hxy)
  refine List.Perm.eq_of_pairwise (le := fun a b => a < b) (fun x y _ _ h1 h2 => absurd (List.lt_trans h1 h2) (List.lt_irrefl _)) ha hb ((List.perm_ext_iff_of_nodup na nb).2 h)
/-- One put in. -/
def inK (k : List UInt8) : List (List UInt8) → List (List UInt8)
  | [] => [k]
  | x :: l => if x < k then x :: inK k l else if x = k then x :: l else k :: x :: l
theorem mem_inK {k x : List UInt8} : ∀ {l : List (List UInt8)}, x ∈ inK k l ↔ x = k ∨ x ∈ l
  | [] => by simp [inK]
  | y :: l => by
    rw [inK]
    split
    · rw [List.mem_cons, List.mem_cons, mem_inK]
      constructor
      · rintro (h | h | h)
        · exact .inr (.inl h)
        · exact .inl h
        · exact .inr (.inr h)
      · rintro (h | h | h)
        · exact .inr (.inl h)
        · exact .inl h
        · exact .inr (.inr h)
    · split
      · rename_i e
        subst e
        rw [List.mem_cons]
        constructor
        · intro h; exact .inr h
        · rintro (h | h)
          · exact .inl h
          · exact h
      · rw [List.mem_cons]
theorem up_inK {k : List UInt8} : ∀ {l : List (List UInt8)}, UpK l → UpK (inK k l)
  | [], _ => by unfold UpK inK; simp
  | y :: l, h => by
    have h' := h
    unfold UpK at h'
    rw [List.pairwise_cons] at h'
    obtain ⟨h1, h2⟩ := h'
    rw [inK]
    by_cases e : y < k
    · rw [if_pos e]
      unfold UpK
      rw [List.pairwise_cons]
      refine ⟨fun x hx => ?_, up_inK h2⟩
      rcases mem_inK.1 hx with rfl | hx
      · exact e
      · exact h1 x hx
    · rw [if_neg e]
      by_cases e2 : y = k
      · rw [if_pos e2]; exact h
      · rw [if_neg e2]
        have hlt : k < y := by
          rcases List.le_total y k with q | q
          · exact absurd (List.le_antisymm q (List.not_lt.1 e)) e2
          · exact List.not_le.1 (fun q2 => e2 (List.le_antisymm q2 q))
        unfold UpK
        rw [List.pairwise_cons]
        refine ⟨fun x hx => ?_, h⟩
        rcases List.mem_cons.1 hx with rfl | hx
        · exact hlt
        · exact List.lt_trans hlt (h1 x hx)
def inAll (ks : List (List UInt8)) : List (List UInt8) := ks.foldl (fun l k => inK k l) []
theorem inAll_up (ks : List (List UInt8)) : UpK (inAll ks) ∧ ∀ x, x ∈ inAll ks ↔ x ∈ ks := by
  have : ∀ (ks l : List (List UInt8)), UpK l → UpK (ks.foldl (fun l k => inK k l) l) ∧ ∀ x, x ∈ ks.foldl (fun l k => inK k l) l ↔ x ∈ l ∨ x ∈ ks := by
    intro ks
    induction ks with
    | nil => intro l hl; exact ⟨hl, fun x => by simp⟩
    | cons k ks ih =>
      intro l hl
      obtain ⟨h1, h2⟩ := ih (inK k l) (up_inK hl)
      refine ⟨h1, fun x => ?_⟩
      rw [List.foldl_cons, h2 x, mem_inK, List.mem_cons]
      constructor
      · rintro ((h | h) | h)
        · exact .inr (.inl h)
        · exact .inl h
        · exact .inr (.inr h)
      · rintro (h | h | h)
        · exact .inl (.inr h)
        · exact .inl (.inl h)
        · exact .inr h
  obtain ⟨h1, h2⟩ := this ks [] List.Pairwise.nil
  exact ⟨h1, fun x => by rw [show inAll ks = ks.foldl (fun l k => inK k l) [] from rfl, h2 x]; simp⟩
theorem compact_up {d : Array (List UInt8)} (hs : ∀ i j, i ≤ j → j < d.size → d[i]! ≤ d[j]!) : ∀ m, m ≤ d.size → UpK (Lib.compactUpTo d m) ∧ (∀ x, x ∈ Lib.compactUpTo d m ↔ ∃ j, j < m ∧ d[j]! = x) := by
  intro m
  induction m with
  | zero =>
    intro _
    refine ⟨?_, fun x => ?_⟩
    · unfold UpK Lib.compactUpTo; simp
    · unfold Lib.compactUpTo; simp
  | succ m ih =>
    intro hm
    obtain ⟨h1, h2⟩ := ih (by omega)
    rw [Lib.compactUpTo_succ]
    cases hk : Lib.keeps d m with
    | true =>
      rw [if_pos rfl]
      have hk2 : m = 0 ∨ d[m]! ≠ d[m - 1]! := by unfold Lib.keeps at hk; exact of_decide_eq_true hk
      refine ⟨?_, fun x => ?_⟩
      · unfold UpK
        rw [List.pairwise_append]
        refine ⟨h1, by simp, fun x hx y hy => ?_⟩
        rw [List.mem_singleton] at hy
        subst hy
        obtain ⟨j, hj, rfl⟩ := (h2 x).1 hx
        have a1 := hs j (m - 1) (by omega) (by omega)
        have a2 := hs (m - 1) m (by omega) (by omega)
        have ne : d[m - 1]! ≠ d[m]! := by
          rcases hk2 with h | h
          · omega
          · exact fun e => h e.symm
        have a3 : d[m - 1]! < d[m]! := by
          refine List.not_le.1 (fun q => ne (List.le_antisymm a2 q))
        exact List.not_le.1 (fun q => List.not_le.2 a3 (List.le_trans q a1))
      · rw [List.mem_append, h2 x, List.mem_singleton]
        constructor
        · rintro (⟨j, hj, e⟩ | e)
          · exact ⟨j, by omega, e⟩
          · exact ⟨m, by omega, e.symm⟩
        · rintro ⟨j, hj, e⟩
          by_cases q : j = m
          · subst q; exact .inr e.symm
          · exact .inl ⟨j, by omega, e⟩
    | false =>
      rw [if_neg (by decide), List.append_nil]
      have hk2 : ¬ (m = 0 ∨ d[m]! ≠ d[m - 1]!) := by unfold Lib.keeps at hk; exact of_decide_eq_false hk
      refine ⟨h1, fun x => ?_⟩
      rw [h2 x]
      constructor
      · rintro ⟨j, hj, e⟩
        exact ⟨j, by omega, e⟩
      · rintro ⟨j, hj, e⟩
        by_cases q : j = m
        · subst q
          have h0 : j ≠ 0 := fun e => hk2 (.inl e)
          have e2 : d[j]! = d[j - 1]! := by
            by_cases q : d[j]! = d[j - 1]!
            · exact q
            · exact absurd (.inr q) hk2
          exact ⟨j - 1, by omega, by rw [← e2]; exact e⟩
        · exact ⟨j, by omega, e⟩
theorem compact_sort (ks : List (List UInt8)) : Lib.compact (ks.mergeSort fun x y => decide (x ≤ y)) = inAll ks := by
  have tr : ∀ a b c : List UInt8, decide (a ≤ b) = true → decide (b ≤ c) = true → decide (a ≤ c) = true := fun a b c h1 h2 => by simp only [decide_eq_true_eq] at *; exact List.le_trans h1 h2
  have tot : ∀ a b : List UInt8, (decide (a ≤ b) || decide (b ≤ a)) = true := fun a b => by simp only [Bool.or_eq_true, decide_eq_true_eq]; exact List.le_total a b
  have hp := List.mergeSort_perm ks fun x y => decide (x ≤ y)
  have hs := List.pairwise_mergeSort tr tot ks
  generalize ks.mergeSort (fun x y => decide (x ≤ y)) = ts at *
  have hs2 : ∀ i j, i ≤ j → j < ts.toArray.size → ts.toArray[i]! ≤ ts.toArray[j]! := fun i j hij hj => by
    have hj' : j < ts.length := by simpa using hj
    rw [getElem!_pos ts.toArray i (by simp; omega), getElem!_pos ts.toArray j (by simpa using hj')]
    simp only [List.getElem_toArray]
    by_cases e : i = j
    · subst e; exact List.le_refl _
    · have := (List.pairwise_iff_getElem.1 hs) i j (by omega) hj' (by omega)
      exact of_decide_eq_true this
  obtain ⟨h1, h2⟩ := compact_up hs2 ts.length (by simp)
  obtain ⟨k1, k2⟩ := inAll_up ks
  refine upK_same h1 k1 (fun x => ?_)
  show x ∈ Lib.compactUpTo ts.toArray ts.length ↔ _
  rw [h2 x, k2 x, ← hp.mem_iff]
  constructor
  · rintro ⟨j, hj, e⟩
    rw [getElem!_pos ts.toArray j (by simpa using hj)] at e
    simp only [List.getElem_toArray] at e
    rw [← e]; exact List.getElem_mem hj
  · intro h
    obtain ⟨j, hj, e⟩ := List.mem_iff_getElem.1 h
    refine ⟨j, hj, ?_⟩
    rw [getElem!_pos ts.toArray j (by simpa using hj)]
    simp only [List.getElem_toArray]
    exact e
theorem inAll_len (ks : List (List UInt8)) : (inAll ks).length ≤ ks.length := by
  have : ∀ (ks l : List (List UInt8)), (ks.foldl (fun l k => inK k l) l).length ≤ l.length + ks.length := by
    have hk : ∀ (k : List UInt8) (l : List (List UInt8)), (inK k l).length ≤ l.length + 1 := by
      intro k l
      induction l with
      | nil => simp [inK]
      | cons x l ih => rw [inK]; split <;> (try split) <;> simp <;> omega
    intro ks
    induction ks with
    | nil => intro l; simp
    | cons k ks ih => intro l; rw [List.foldl_cons]; have := ih (inK k l); have := hk k l; simp only [List.length_cons]; omega
  have := this ks []
  simpa [inAll] using this
/-- Keys, rising, each once. -/
def keysL (l : List ByteArray) : List ByteArray := ofB (inAll (lb l))
theorem ofB_mem {l : List (List UInt8)} {k : ByteArray} : k ∈ ofB l ↔ k.data.toList ∈ l := by
  unfold ofB
  rw [List.mem_map]
  constructor
  · rintro ⟨x, hx, rfl⟩; simpa using hx
  · intro h; exact ⟨_, h, by simp⟩
theorem lb_mem {l : List ByteArray} {k : ByteArray} : k.data.toList ∈ lb l ↔ k ∈ l := by
  unfold lb
  rw [List.mem_map]
  constructor
  · rintro ⟨x, hx, e⟩
    have : x = k := by
      cases x; cases k
      simp only at e
      rw [Array.toList_inj.1 e]
    rw [← this]; exact hx
  · intro h; exact ⟨k, h, rfl⟩
theorem keysL_mem {l : List ByteArray} {k : ByteArray} : k ∈ keysL l ↔ k ∈ l := by
  unfold keysL
  rw [ofB_mem, (inAll_up _).2, lb_mem]
theorem keysL_nd (l : List ByteArray) : (keysL l).Nodup := by
  unfold keysL ofB
  have h := (inAll_up (lb l)).1
  unfold UpK at h
  have hn : (inAll (lb l)).Nodup := h.imp (fun {x y} hxy e => by subst e; exact List.lt_irrefl _ hxy)
  unfold List.Nodup
  rw [List.pairwise_map]
  exact hn.imp (fun {x y} h e => h (by injection e with e; simpa using e))
theorem keysL_len (l : List ByteArray) : (keysL l).length ≤ l.length := by
  unfold keysL
  rw [ofB_len]
  have := inAll_len (lb l)
  rwa [lb_len] at this
theorem inAll_congr {a b : List (List UInt8)} (h : ∀ x, x ∈ a ↔ x ∈ b) : inAll a = inAll b :=
  upK_same (inAll_up a).1 (inAll_up b).1 (fun x => by rw [(inAll_up a).2, (inAll_up b).2]; exact h x)
theorem keysL_congr {a b : List ByteArray} (h : ∀ k, k ∈ a ↔ k ∈ b) : keysL a = keysL b := by
  unfold keysL
  rw [inAll_congr (fun x => ?_)]
  have e : x = (⟨x.toArray⟩ : ByteArray).data.toList := by simp
  rw [e, lb_mem, lb_mem]
  exact h _
end Go.Proofs.Ytjojempjmpaaaaa

namespace Go.Proofs.Ytjojempjmpaaaaa
open Go.RowKit
/-- A block that is none of the table's. -/
structure Nt (s : Lk) (T g : Nat) : Prop where
  t : g ≠ T
  k : ∀ k K, s.lk k = some K → g ≠ K
  x : ∀ i k x, i < 3 → x ∈ s.q i k → g ≠ x
  p : s.pas g = none
noncomputable def withP (s : Lk) (p : Nat → Option Obj) : Lk := { s with pas := p }
/-- A value's own block rides along. -/
noncomputable def rideP (p : Nat → Option Obj) (v : Value) (W : World) : Nat → Option Obj := fun b => if v.ownBlock = some b then W.heap[b]? else p b
section
variable {B : Nat} {W X : World} {T ml mh mw n : Nat} {s : Lk} {v v' : Value}
theorem LkAt.off (h : LkAt B W T ml mh mw n s) (p : Nat → Option Obj) (hp : ∀ b c, p b = some c → s.pas b = some c) : LkAt B W T ml mh mw n (withP s p) :=
  { h with ps := ⟨fun b c e => h.ps.pa b c (hp b c e), fun b c e => h.ps.pc b c (hp b c e), fun b c e => h.ps.pT b c (hp b c e), fun b c k K e => h.ps.pk b c k K (hp b c e), fun b c i k x e => h.ps.px b c i k x (hp b c e)⟩ }
theorem LkAt.ride (h : LkAt B W T ml mh mw n s) (hv : ∀ g, v.ownBlock = some g → Nt s T g ∧ ∃ i u, W.cell? ⟨g, i, none⟩ = some u) : LkAt B W T ml mh mw n (withP s (rideP s.pas v W)) := by
  have key : ∀ b c, rideP s.pas v W b = some c → (v.ownBlock = some b ∧ W.heap[b]? = some c) ∨ s.pas b = some c := fun b c e => by
    unfold rideP at e
    split at e
    · rename_i q; exact .inl ⟨q, e⟩
    · exact .inr e
  refine { h with ps := ⟨fun b c e => ?_, fun b c e => ?_, fun b c e => ?_, fun b c k K e e2 => ?_, fun b c i k x e hi hx => ?_⟩ } <;> rcases key b c e with ⟨q1, q2⟩ | q
  · exact q2
  · exact h.ps.pa b c q
  · exact (hv b q1).2
  · exact h.ps.pc b c q
  · exact (hv b q1).1.t
  · exact h.ps.pT b c q
  · exact (hv b q1).1.k k K e2
  · exact h.ps.pk b c k K q e2
  · exact (hv b q1).1.x i k x hi hx
  · exact h.ps.px b c i k x q hi hx
/-- What rode along is as it was, and still none of the table's. -/
theorem LkAt.rode (h : LkAt B X T ml mh mw n s) {p : Nat → Option Obj} {g : Nat} (hs : s.pas = rideP p v W) (hg : v.ownBlock = some g) (hW : ∃ c, W.heap[g]? = some c) (hp : p g = none) : X.heap[g]? = W.heap[g]? ∧ Nt (withP s p) T g := by
  obtain ⟨c, hc⟩ := hW
  have e : s.pas g = some c := by
    rw [hs]
    unfold rideP
    rw [if_pos hg, hc]
  exact ⟨(h.ps.pa g c e).trans hc.symm, ⟨h.ps.pT g c e, fun k K e2 => h.ps.pk g c k K e e2, fun i k x hi hx => h.ps.px g c i k x e hi hx, hp⟩⟩
theorem LkAt.unride (h : LkAt B W T ml mh mw n s) {p : Nat → Option Obj} {w0 : World} (hs : s.pas = rideP p v w0) (hp : ∀ g, v.ownBlock = some g → p g = none) : LkAt B W T ml mh mw n (withP s p) :=
  h.off p (fun b c e => by
    rw [hs]
    unfold rideP
    split
    · rename_i q
      rw [hp b q] at e; cases e
    · exact e)
theorem LkAt.nt_new (h : LkAt B W T ml mh mw n s) {g : Nat} (hg : W.heap.size ≤ g) : Nt s T g := by
  refine ⟨fun e => ?_, fun k K e c => ?_, fun i k x hi hx c => ?_, ?_⟩
  · have := block_lt (p := ⟨T, 0, none⟩) h.t0
    simp only at this; omega
  · have := (h.qa k K e 0 (by decide)).lt; omega
  · have := (h.wc i k x hi hx).lt; omega
  · cases e : s.pas g with
    | none => rfl
    | some c => have := h.ps.lt e; omega
/-- A row that is none of the table's grows. -/
theorem LkAt.appended (h : LkAt B W T ml mh mw n s) (hn : ∀ g, v.ownBlock = some g → Nt s T g ∧ (∃ u, W.cell? ⟨g, 0, none⟩ = some u) ∧ B ≤ g) (hg : W.grownBy X v.ownBlock) (hv : v'.ownBlock = v.ownBlock ∨ v'.ownBlock = some W.heap.size) :
    LkAt B X T ml mh mw n s ∧ Below B W X ∧ ∀ g, v'.ownBlock = some g → Nt s T g := by
  have hN : ∀ g, v'.ownBlock = some g → Nt s T g := fun g e => by
    rcases hv with q | q
    · exact (hn g (q ▸ e)).1
    · rw [q] at e
      injection e with e
      exact h.nt_new (by omega)
  cases e : v.ownBlock with
  | none =>
    rw [e] at hg
    have hb : Below W.heap.size W X := ⟨hg.os, hg.tape, hg.output, hg.size, fun j hj => hg.block j hj (by simp)⟩
    exact ⟨h.below hb, hb.mono h.lts, hN⟩
  | some g =>
    rw [e] at hg
    obtain ⟨nt, ⟨u, hu⟩, hB⟩ := hn g e
    have nm : ∀ {κ : Type} {Y : Ky κ} {mk : Option Nat → Value} {M n' : Nat} {o : κ → Option Nat}, MAt Y mk W M n' o → M ≠ g := fun hM => hM.ne hu
    refine ⟨h.keep (Cf.grown hg) (fun _ => ?_) (fun m hm _ => ?_) (fun k K e2 _ => ?_) (fun i k x hi hx _ => ?_) (fun b c e2 _ => ?_), (Below.refl B W).grown hg h.lts (fun g' e2 => by injection e2 with e2; omega), hN⟩
    · show ¬ T = g
      exact fun c => nt.t c.symm
    · show ¬ m = g
      rcases hm with rfl | rfl | rfl | ⟨o, e2⟩
      · exact nm h.m0
      · exact nm h.m1
      · exact nm h.m2
      · exact nm (h.md o m e2)
    · show ¬ K = g
      exact fun c => nt.k k K e2 c.symm
    · show ¬ x = g
      exact fun c => nt.x i k x hi hx c.symm
    · show ¬ b = g
      intro c2
      rw [c2, nt.p] at e2; cases e2
end
theorem ownsRow_of {w w' : World} {B : Nat} {e : TypeId} {sz : Nat} {v : Value} {n : Nat} {xs : List Value} (h : w.ownsRow B e sz v n xs) (hb : ∀ g, v.ownBlock = some g → w'.heap[g]? = w.heap[g]?) : w'.ownsRow B e sz v n xs :=
  ⟨h.1, h.2.imp id fun ⟨g, cap, cur, hv, hB, hg, rest⟩ => ⟨g, cap, cur, hv, hB, (hb g (by rw [hv]; rfl)).trans hg, rest⟩⟩
theorem Step.withP {k : ByteArray} {s s' : Lk} {w : Nat} (h : Step k s w s') (p : Nat → Option Obj) : Step k (withP s p) w (withP s' p) := by
  cases h with
  | up r h0 e1 e2 e3 => exact .up (s := Go.Proofs.Ytjojempjmpaaaaa.withP s p) r h0 e1 e2 e3
  | new r m e1 e2 e3 => exact .new (s := Go.Proofs.Ytjojempjmpaaaaa.withP s p) r m e1 e2 e3
theorem Step.pas {k : ByteArray} {s s' : Lk} {w : Nat} (h : Step k s w s') : s'.pas = s.pas := by cases h <;> rfl
theorem PassK.pas {k : ByteArray} {s s' : Lk} {os : List Int} (h : PassK k s os s') : s'.pas = s.pas := by
  induction h with
  | nil => rfl
  | snoc _ st ih => exact st.pas.trans ih
theorem PassK.withP {k : ByteArray} {s s' : Lk} {os : List Int} (h : PassK k s os s') (p : Nat → Option Obj) : PassK k (withP s p) os (withP s' p) := by
  induction h with
  | nil => exact .nil
  | @snoc os s1 s2 w _ st ih => exact .snoc (s1 := Go.Proofs.Ytjojempjmpaaaaa.withP s1 p) ih (st.withP p)
theorem PassL.pas {s s' : Lk} {ks : List ByteArray} {os : List Int} (h : PassL s ks os s') : s'.pas = s.pas := by
  induction h with
  | nil => rfl
  | snoc _ pk _ ih => exact pk.pas.trans ih
theorem PassL.withP {s s' : Lk} {ks : List ByteArray} {os : List Int} (h : PassL s ks os s') (p : Nat → Option Obj) : PassL (withP s p) ks os (withP s' p) := by
  induction h with
  | nil => exact .nil
  | @snoc ks os o2 k s1 s2 _ pk st ih => exact .snoc (s1 := Go.Proofs.Ytjojempjmpaaaaa.withP s1 p) (s2 := Go.Proofs.Ytjojempjmpaaaaa.withP s2 p) ih (pk.withP p) st
theorem LkC.withP {s : Lk} (h : LkC s) (p : Nat → Option Obj) : LkC (withP s p) := ⟨⟨h.ok.h1, h.ok.h2, h.ok.ck, h.ok.w1, h.ok.w2, h.ok.r1, h.ok.r2, h.ok.cp⟩, h.qd, h.nd, h.q3⟩
end Go.Proofs.Ytjojempjmpaaaaa

namespace Go.Proofs.Ytjojempjmpaaaaa
open Go.RowKit
theorem own0 {W : World} {B : Nat} {e : TypeId} {sz : Nat} {v : Value} {n : Nat} {xs : List Value} (h : W.ownsRow B e sz v n xs) (hz : 0 < sz) (h0 : n = 0 → v = .slice none 0 0) : ∀ g, v.ownBlock = some g → (∃ u, W.cell? ⟨g, 0, none⟩ = some u) ∧ B ≤ g ∧ ∃ c, W.heap[g]? = some c := fun g hg => by
  rcases h.2 with ⟨hv, _⟩ | ⟨g', cap, cur, hv, hB, hh, h1, h2, h3, h4⟩
  · rw [hv] at hg; cases hg
  · rw [hv] at hg
    injection hg with hg
    have hg : g' = g := hg
    subst hg
    have hn : n ≠ 0 := fun e => by rw [h0 e] at hv; cases hv
    have hs : 0 < cur.size := by
      have : 1 * 1 ≤ cap * sz := Nat.mul_le_mul (by omega) (by omega)
      omega
    exact ⟨⟨cur[0], by simp [World.cell?, hh, hs]⟩, hB, _, hh⟩
section
variable {B : Nat} {W X : World} {T ml mh mw n : Nat} {s : Lk}
/-- What pass leaves. -/
def PgP (B : Nat) (T ml mh mw n : Nat) (s : Lk) (ks : List ByteArray) (W : World) (e : Ending) (W' : World) : Prop :=
  ∃ v os s', e = .returned v ∧ RowI W' W.heap.size v os ∧ (os = [] → v = .slice none 0 0) ∧ PassL s ks os s' ∧ LkAt B W' T ml mh mw (n + 3 * os.length) s' ∧ (∀ g, v.ownBlock = some g → Nt s' T g) ∧ Below B W W'
/-- Where the walk stands: so many keys are done; of the next one so many steps. -/
structure PsW (B : Nat) (W wr : World) (T ml mh mw n : Nat) (s : Lk) (ks : List ByteArray) (v : Value) (os o2 : List Int) (k : ByteArray) (s1 s2 : Lk) : Prop where
  fp : PassL s ks os s1
  fq : PassK k s1 o2 s2
  ft : LkAt B wr T ml mh mw (n + 3 * (os ++ o2).length) s2
  fv : RowI wr W.heap.size v (os ++ o2)
  f0 : os ++ o2 = [] → v = .slice none 0 0
  fn : ∀ g, v.ownBlock = some g → Nt s2 T g
  fb : Below B W wr
theorem PsW.below {wr : World} {ks : List ByteArray} {v : Value} {os o2 : List Int} {k : ByteArray} {s1 s2 : Lk} (h : PsW B W wr T ml mh mw n s ks v os o2 k s1 s2) (hb : Below wr.heap.size wr X) : PsW B W X T ml mh mw n s ks v os o2 k s1 s2 :=
  { h with
    ft := h.ft.below hb
    fv := ownsRow_of h.fv (fun g e => hb.block g (by
      obtain ⟨⟨u, hu⟩, _⟩ := own0 h.fv (by decide) (fun e => h.f0 (List.length_eq_zero_iff.1 e)) g e
      exact block_lt (p := ⟨g, 0, none⟩) hu))
    fb := h.fb.trans (hb.mono h.ft.lts) }
theorem RowI.len {v : Value} {ts : List Int} (h : RowI W B v ts) : ∃ a c, v = .slice a ts.length c := by
  rcases h.2 with ⟨hv, hn⟩ | ⟨g, cp, cur, hv, _⟩
  · exact ⟨none, 0, by rw [hv, hn]⟩
  · exact ⟨_, cp, hv⟩
theorem append_i2 {w : World} {ops : Array Oper} {rest : List Oper} {o : Oper} {a : Act} {Q : Exit → Act → World → Prop} (hgd : o.guard = none) (s x : Operand)
    (ho : o.op = .call { callee := .builtin .append, args := #[s, x], argTypes := #[32, 32] })
    (B : Nat) (v : Value) (ts : List Int) (ad : Addr) (t : Int) (c : Nat) (hs : a.eval s = v) (hown : RowI w B v ts) (hx : a.eval x = .slice (some ad) 1 c) (hc : w.cell? (ad.add 0) = some (.int .i64 t)) (h10 : ts.length ≤ 1000000) (hB : B ≤ w.heap.size)
    (h : ∀ v' w', RowI w' B v' (ts ++ [t]) → w.grownBy w' v.ownBlock → (v'.ownBlock = v.ownBlock ∨ v'.ownBlock = some w.heap.size) → wpList Try.prog ops Q rest (a.put o.dst v') w') :
    wpList Try.prog ops Q (o :: rest) a w := by
  obtain ⟨i0, hi, hzz⟩ := Option.map_eq_some_iff.1 infoI
  simp only [Prod.mk.injEq] at hzz
  obtain ⟨hz0, hz1, hz2⟩ := hzz
  refine wpList_append_own_at _ hgd s x 32 ho B 3 i0 (.int .i64 0) 1 8 Try.underlying32 hi hz0 hz1 hz2 rfl (by decide) v ts.length (ts.map (Value.int .i64)) hs hown ad 1 c [.int .i64 t] hx rfl ?_ ?_ (by unfold maxLen; omega) (by omega) hB (fun v' w' h1 h2 _ h4 => h v' w' ?_ h2 h4)
  · intro j u' hj
    match j, hj with
    | 0, hj => simp at hj; subst hj; exact hc
  · intro u' hu; simp at hu; subst hu; rfl
  · unfold RowI
    rw [List.length_append, List.map_append]; exact h1
/-- The row of owners grows by one. -/
theorem PsW.step {wr wx wy : World} {ks : List ByteArray} {v v' : Value} {os o2 : List Int} {k : ByteArray} {s1 s2 s3 : Lk} {w : Nat} (h : PsW B W wr T ml mh mw n s ks v os o2 k s1 s2) (hs : Step k s2 w s3)
    (t : LkAt B wx T ml mh mw (n + 3 * (os ++ o2).length + 3) s3) (hb : Below B W wx) (nt : ∀ g, v.ownBlock = some g → Nt s3 T g) (hv : RowI wx W.heap.size v (os ++ o2)) (hr : RowI wy W.heap.size v' ((os ++ o2) ++ [(s2.con w).ow])) (hg : wx.grownBy wy v.ownBlock) (hv' : v'.ownBlock = v.ownBlock ∨ v'.ownBlock = some wx.heap.size) (hBW : B ≤ W.heap.size) :
    PsW B W wy T ml mh mw n s ks v' os (o2 ++ [(s2.con w).ow]) k s1 s3 := by
  obtain ⟨t2, b2, nt2⟩ := t.appended (v := v) (v' := v') (fun g e => by
    obtain ⟨hu, hB, _⟩ := own0 hv (by decide) (fun e => h.f0 (List.length_eq_zero_iff.1 e)) g e
    exact ⟨nt g e, hu, Nat.le_trans hBW hB⟩) hg hv'
  rw [List.append_assoc] at hr
  refine ⟨h.fp, .snoc h.fq hs, ?_, hr, fun e => by simp at e, nt2, hb.trans b2⟩
  rw [← List.append_assoc, List.length_append, List.length_singleton, Nat.mul_add, Nat.mul_one, ← Nat.add_assoc]
  exact t2
end
end Go.Proofs.Ytjojempjmpaaaaa
