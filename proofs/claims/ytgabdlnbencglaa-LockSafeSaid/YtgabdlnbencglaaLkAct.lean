/-
  A TABLE OF LOCKS BETWEEN ACTS: what is known of it, act by act.
-/
import Derived.Test.YtgabdlnbencglaaLkAskP
namespace Go.Proofs.Ytgabdlnbencglaa
open Go.RowKit
/-- At most so many hold and wait. -/
def Bn (s : Lk) (d : Nat) : Prop := ∃ L : List Nat, L.length ≤ d ∧ ∀ i k w, i < 3 → w ∈ s.q i k → w ∈ L
theorem nd_len : ∀ {l L : List Nat}, l.Nodup → (∀ x, x ∈ l → x ∈ L) → l.length ≤ L.length
  | [], _, _, _ => Nat.zero_le _
  | a :: t, L, hn, hs => by
    have h1 := List.nodup_cons.1 hn
    have ha := hs a (List.mem_cons_self ..)
    have h2 := nd_len (l := t) (L := L.erase a) h1.2 (fun x hx => (List.mem_erase_of_ne (fun e => h1.1 (by rw [← e]; exact hx))).2 (hs x (List.mem_cons_of_mem _ hx)))
    have h3 := List.length_erase_of_mem ha
    have h4 := List.length_pos_of_mem ha
    rw [List.length_cons]; omega
section
variable {s s' : Lk} {d : Nat}
theorem Bn.len (h : Bn s d) (hc : LkC s) {i : Nat} (hi : i < 3) (k : ByteArray) : (s.q i k).length ≤ d := by
  obtain ⟨L, h1, h2⟩ := h
  exact Nat.le_trans (nd_len (hc.nd i k hi) (fun x hx => h2 i k x hi hx)) h1
theorem Bn.sub (h : Bn s d) (hs : ∀ i k w, i < 3 → w ∈ s'.q i k → ∃ j k', j < 3 ∧ w ∈ s.q j k') : Bn s' d := by
  obtain ⟨L, h1, h2⟩ := h
  refine ⟨L, h1, fun i k w hi hw => ?_⟩
  obtain ⟨j, k', hj, e⟩ := hs i k w hi hw
  exact h2 j k' w hj e
theorem Bn.passed {P : ByteArray → Prop} (h : Bn s d) (hp : Passed P s s') : Bn s' d := h.sub (fun i k w hi hw => by
  by_cases e : i = 0
  · subst e
    obtain ⟨j, hj, e⟩ := hp.hs k w hw
    exact ⟨j, k, hj, e⟩
  · exact ⟨i, k, hi, hp.sub i k w (by omega) hw⟩)
theorem Bn.add (h : Bn s d) {w : Nat} (hs : ∀ i k y, i < 3 → y ∈ s'.q i k → y ∈ s.q i k ∨ y = w) : Bn s' (d + 1) := by
  obtain ⟨L, h1, h2⟩ := h
  refine ⟨w :: L, by rw [List.length_cons]; omega, fun i k y hi hy => ?_⟩
  rcases hs i k y hi hy with c | c
  · exact List.mem_cons_of_mem _ (h2 i k y hi c)
  · rw [c]; exact List.mem_cons_self ..
theorem mem_updQ_snoc {q : Nat → ByteArray → List Nat} {i j : Nat} {k k' : ByteArray} {w y : Nat} (h : y ∈ updQ q i k (q i k ++ [w]) j k') : y ∈ q j k' ∨ y = w := by
  by_cases e : j = i ∧ k' = k
  · obtain ⟨rfl, rfl⟩ := e
    rw [updQ_same, List.mem_append, List.mem_singleton] at h
    exact h
  · rw [updQ_other _ _ e] at h
    exact .inl h
theorem AskR.bn {o : Int} {k : ByteArray} {b : Bool} {e : Int} (h : AskR s o k b e s') (hb : Bn s d) : Bn s' (d + 1) := by
  have mono : Bn s (d + 1) := by
    obtain ⟨L, h1, h2⟩ := hb
    exact ⟨L, by omega, h2⟩
  cases h with
  | neg h => exact mono
  | state w h h2 => exact mono
  | has h0 h1 h2 h3 h4 => exact mono
  | up K h0 h1 h2 h3 h4 h5 h6 => exact mono
  | upw K h0 w h1 h2 h3 h4 h5 h6 h7 => exact hb.add (w := w) (fun i k y _ hy => mem_updQ_snoc hy)
  | hold K m w h1 h2 h3 h4 h5 h6 => exact hb.add (w := w) (fun i k y _ hy => mem_updQ_snoc hy)
  | wait K w h1 h2 h3 h4 h5 => exact hb.add (w := w) (fun i k y _ hy => mem_updQ_snoc hy)
/-- What is known behind so many acts. -/
structure Ac (s : Lk) (n i : Nat) : Prop where
  g : Good s
  w : ∃ c, Wn s c ∧ c ≤ i ∧ n + 3 * c ≤ 12 * i
  b : Bn s i
variable {n i : Nat}
theorem Ac.nb (h : Ac s n i) : n ≤ 12 * i := by
  obtain ⟨c, _, _, h3⟩ := h.w
  omega
theorem Ac.lens (h : Ac s n i) (k : ByteArray) : (s.q 0 k).length + ((s.q 1 k).length + (s.q 2 k).length) ≤ 3 * i := by
  have h0 := h.b.len h.g.c (i := 0) (by decide) k
  have h1 := h.b.len h.g.c (i := 1) (by decide) k
  have h2 := h.b.len h.g.c (i := 2) (by decide) k
  omega
theorem Ac.mono (h : Ac s n i) : Ac s n (i + 1) := by
  obtain ⟨c, h1, h2, h3⟩ := h.w
  obtain ⟨L, h4, h5⟩ := h.b
  exact ⟨h.g, ⟨c, h1, by omega, by omega⟩, ⟨L, by omega, h5⟩⟩
theorem Ac.ask (h : Ac s n i) {o : Int} {k : ByteArray} {b : Bool} {e : Int} (hr : AskR s o k b e s') (hk : k.size ≤ 100) (hwf : (Lit.int .i64 o).wf = true) : Ac s' (n + 3) (i + 1) ∧ s'.pas = s.pas := by
  obtain ⟨c, h1, h2, h3⟩ := h.w
  obtain ⟨g1, g2, g3⟩ := hr.good h.g h1 hk hwf
  exact ⟨⟨g1, ⟨c + 1, g2, by omega, by omega⟩, hr.bn h.b⟩, g3⟩
theorem leftT_q {o : Int} {j : Nat} {k : ByteArray} {y : Nat} (hy : y ∈ (leftT s o).q j k) : y ∈ s.q j k := by
  by_cases e : j = 0
  · subst e; exact hy
  · have hy : y ∈ if j = 0 then s.q 0 k else fl s.con o (s.q j k) := hy
    rw [if_neg e] at hy
    exact (mem_fl.1 hy).1
theorem leftT_same (h : LkC s) {o : Int} {k : ByteArray} {w : Nat} (hw : s.wt o = some w) (hk : (s.con w).k ≠ k) : SameAt s (leftT s o) k := by
  refine ⟨fun j hj => ?_, fun _ _ _ _ => rfl, rfl⟩
  by_cases e : j = 0
  · subst e; rfl
  · show (if j = 0 then _ else fl s.con o (s.q j k)) = _
    rw [if_neg e]
    refine fl_id (fun y hy c => hk ?_)
    have h1 := h.ok.w2 j k y (by omega) hy
    rw [c, hw] at h1
    obtain rfl := Option.some.inj h1
    exact (h.ok.ck j k w hj hy).1
/-- Passing keeps all. -/
theorem Ac.pass (h : Ac s n i) {s1 : Lk} {ks : List ByteArray} {ps : List Int} (hp : PassL s1 ks ps s') (hc : LkC s1) (hs : ∀ i k y, y ∈ s1.q i k → y ∈ s.q i k) (hn : ks.Nodup) (ho : ∀ k, k ∉ ks → SameAt s s1 k) {m : Nat} (hm : m ≤ n + 12 + 3 * ps.length) : Ac s' m (i + 1) := by
  obtain ⟨c, h1, h2, h3⟩ := h.w
  have w1 := h1.sub hs
  obtain ⟨f1, f2, f3, f4, _⟩ := hp.all hc w1 hn
  have b1 : Bn s1 i := h.b.sub (fun j k w hj hw => ⟨j, k, hj, hs j k w hw⟩)
  obtain ⟨L, h4, h5⟩ := b1.passed f2
  exact ⟨hp.good hc w1 hn h.g ho, ⟨c - ps.length, f4, by omega, by omega⟩, ⟨L, by omega, h5⟩⟩
theorem Ac.quit (h : Ac s n i) {o : Int} {w : Nat} (hw : s.wt o = some w) {ps : List Int} (hp : PassL (leftT s o) (keysL [(s.con w).k]) ps s') : Ac s' (n + 1 + 3 * ps.length) (i + 1) ∧ s'.pas = s.pas :=
  ⟨h.pass hp h.g.c.leftT.1 (fun _ _ _ hy => leftT_q hy) (keysL_nd _) (fun k hk => leftT_same h.g.c hw (fun e => hk (keysL_mem.2 (by rw [e]; simp)))) (by omega), hp.pas⟩
theorem Ac.free (h : Ac s n i) {os : List Int} {kl : List ByteArray} (hl : os.length ≤ 12) {ps : List Int} (hp : PassL (goneL s os) (keysL kl) ps s') (ho : ∀ k, k ∉ kl → SameAt s (goneL s os) k) : Ac s' (n + os.length + 3 * ps.length) (i + 1) := by
  obtain ⟨g1, _, _, _, g5, _⟩ := goneL_all (os := os) h.g.c
  exact h.pass hp g1 g5 (keysL_nd _) (fun k hk => ho k (fun c => hk (keysL_mem.2 c))) (by omega)
theorem ac_none : Ac Lk.none 0 0 := ⟨⟨⟨lkOk_none, fun _ _ _ _ _ _ _ h => (by cases h), fun _ _ _ => List.nodup_nil, fun _ _ _ => rfl⟩, fun _ => ⟨fun h => absurd rfl h, fun _ h => by cases h⟩⟩, ⟨0, ⟨[], Nat.le_refl _, fun _ _ _ _ h => (by cases h)⟩, Nat.le_refl _, Nat.le_refl _⟩, ⟨[], Nat.le_refl _, fun _ _ _ _ h => (by cases h)⟩⟩
end
end Go.Proofs.Ytgabdlnbencglaa
