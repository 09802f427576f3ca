/-
  does OF LAW 16, a Take or a Put: what stays while the list is brought up to date.
-/
import Derived.Test.YtjjbdkgnkieliaaSpDoesA
namespace Go.Proofs.Ytjjbdkgnkieliaa
open Go.RowKit
theorem FindP.uniq {t p : Int} {L : List Nd} {k k' : Int} (h : FindP t p L k) (h' : FindP t p L k') : k = k' := by
  rcases h with ⟨rfl, h⟩ | ⟨j, rfl, hj, hk, ha⟩ <;> rcases h' with ⟨rfl, h'⟩ | ⟨j', rfl, hj', hk', ha'⟩
  · rfl
  · exact absurd hk' (h _ (by rw [List.getD_eq_getElem?_getD, List.getElem?_eq_getElem hj']; exact List.getElem_mem hj'))
  · exact absurd hk (h' _ (by rw [List.getD_eq_getElem?_getD, List.getElem?_eq_getElem hj]; exact List.getElem_mem hj))
  · rcases Nat.lt_trichotomy j j' with e | e | e
    · exact absurd hk (ha' j e)
    · rw [e]
    · exact absurd hk' (ha j' e)
theorem findP_is (t p : Int) : ∀ L : List Nd, ∃ k, FindP t p L k := fun L => by
  by_cases h : ∃ j : Nat, j < L.length ∧ isK t p (L.getD j noNd)
  · have hx : ∃ j : Nat, (j < L.length ∧ isK t p (L.getD j noNd)) ∧ ∀ i, i < j → ¬ (i < L.length ∧ isK t p (L.getD i noNd)) := by
      obtain ⟨j, hj⟩ := h
      induction j using Nat.strongRecOn with
      | ind j ih =>
        by_cases h2 : ∃ i, i < j ∧ (i < L.length ∧ isK t p (L.getD i noNd))
        · obtain ⟨i, hi, hp⟩ := h2
          exact ih i hi hp
        · exact ⟨j, hj, fun i hi hp => h2 ⟨i, hi, hp⟩⟩
    obtain ⟨j, ⟨h1, h2⟩, h3⟩ := hx
    exact ⟨j, .inr ⟨j, rfl, h1, h2, fun i hi q => h3 i hi ⟨by omega, q⟩⟩⟩
  · refine ⟨-1, .inl ⟨rfl, fun x hx q => ?_⟩⟩
    obtain ⟨i, hi, rfl⟩ := List.getElem_of_mem hx
    exact h ⟨i, hi, by rw [List.getD_eq_getElem?_getD, List.getElem?_eq_getElem hi]; exact q⟩
noncomputable def findK (t p : Int) (L : List Nd) : Int := (findP_is t p L).choose
theorem findK_is (t p : Int) (L : List Nd) : FindP t p L (findK t p L) := (findP_is t p L).choose_spec
theorem find_val {w : World} {B : Nat} {v : Value} {L : List Nd} (hr : NdRow w B v L) (hL : L.length ≤ 1000) (t p : Int) : Calls Try.prog 20 #[v, .int .i64 t, .int .i64 p] w fun e w' => e = .returned (.int .i64 (findK t p L)) ∧ w' = w :=
  (find_any hr hL t p).mono fun _ _ ⟨_, e, h, hw⟩ => ⟨by rw [e, h.uniq (findK_is t p L)], hw.symm⟩
def Bd (M : List Nd) (c : Int) : Prop := ∀ x ∈ M, 0 ≤ x.2.2 ∧ x.2.2 ≤ c
theorem mem_le_sum {L : List Nd} (h : ∀ x ∈ L, 0 ≤ x.2.2) {x : Nd} (hx : x ∈ L) : x.2.2 ≤ sumP x.2.1 L := by
  induction L with
  | nil => simp at hx
  | cons y r ih =>
    have hr : ∀ z ∈ r, 0 ≤ z.2.2 := fun z hz => h z (by simp [hz])
    have hy := h y (by simp)
    show _ ≤ (if y.2.1 = x.2.1 then y.2.2 else 0) + sumP x.2.1 r
    rcases List.mem_cons.1 hx with rfl | hx
    · rw [if_pos rfl]
      have := (nget_le (t := 0) (p := x.2.1) hr).1
      omega
    · have := ih hr hx
      split <;> omega
theorem Bd.start {b : Book} {L : List Nd} {n : Nat} (h : NotOk b L) (hn : ∀ p, b.2 p ≤ n) : Bd L n := fun x hx =>
  ⟨h.nn x hx, Int.le_trans (mem_le_sum h.nn hx) (by rw [← h.all]; exact hn _)⟩
theorem Bd.step {M : List Nd} {c : Int} (h : Bd M c) (h0 : 0 ≤ c) (t p : Int) {f : Int → Int} (hf : ∀ n, 0 ≤ n → 0 ≤ f n ∧ f n ≤ n + 1) : Bd (upsert t p f M) (c + 1) := fun x hx => by
  rcases mem_upsert hx with hx | ⟨n, rfl, rfl | hn⟩
  · have := h x hx; exact ⟨this.1, by omega⟩
  · have := hf 0 (Int.le_refl _); exact ⟨this.1, by show f 0 ≤ _; omega⟩
  · have h1 := h _ hn
    have h2 := hf n h1.1
    have h3 : n ≤ c := h1.2
    exact ⟨h2.1, by show f n ≤ _; omega⟩
theorem up_ok (n : Int) (h : 0 ≤ n) : 0 ≤ up n ∧ up n ≤ n + 1 := by unfold up; omega
theorem dn_ok (n : Int) (h : 0 ≤ n) : 0 ≤ dn n ∧ dn n ≤ n + 1 := by unfold dn; split <;> omega
/-- While the list is brought up to date. -/
structure DoS (W w : World) (B S T A n : Nat) (o : Int → Option Nat) (b : Book) (P : Nat) (x : NAct) (v : Value) (M : List Nd) (c : Int) : Prop where
  sp : SpIn w S T A n o b.1 b.2
  row : NdRow w B v M
  pb : w.heap[P]? = some (.cells x.cells 31 (0, 0))
  bel : Below W.heap.size W w
  size : B ≤ w.heap.size
  wB : W.heap.size ≤ B
  sB : S < B
  bo : ∀ t x, o t = some x → W.heap.size ≤ x
  len : M.length ≤ 900
  bd : Bd M c
section
variable {W w w' : World} {B S T A n P : Nat} {v v' : Value} {M M' : List Nd} {o : Int → Option Nat} {b : Book} {x : NAct} {c c' : Int}
theorem DoS.below (h : DoS W w B S T A n o b P x v M c) (hb : Below w.heap.size w w') : DoS W w' B S T A n o b P x v M c :=
  { h with sp := h.sp.below hb, row := World.ownsRow.kept (row := none) h.row ⟨hb.os, hb.tape, hb.output, hb.size, fun i hi _ => hb.block i hi⟩ (by cases v.ownBlock <;> simp),
           pb := (hb.block P (Array.getElem?_eq_some_iff.1 h.pb).1).trans h.pb, bel := h.bel.trans (hb.mono h.bel.size), size := Nat.le_trans h.size hb.size }
theorem NdRow.ne (h : NdRow w B v M) {cs : Array Value} {z : Nat × Nat} (hp : w.heap[P]? = some (.cells cs 31 z)) : v.ownBlock ≠ some P := fun e => by
  rcases h.2 with ⟨rfl, _⟩ | ⟨g, cap, cur, rfl, _, hg, _⟩
  · cases e
  · have : g = P := by simpa [Value.ownBlock] using e
    subst this
    rw [hg] at hp
    injection hp with hp
    injection hp with _ hp
    exact absurd hp (by decide)
/-- The row is written, or grows. -/
theorem DoS.rows (h : DoS W w B S T A n o b P x v M c) (hr : NdRow w' B v' M') (hg : w.grownBy w' v.ownBlock) (hl : M'.length ≤ 900) (hc : Bd M' c') : DoS W w' B S T A n o b P x v' M' c' := by
  have hb : Below B w w' := below_grown hg (fun k hk => (h.row.lt k hk).1) h.size
  exact { h with
    sp := h.sp.row h.sB h.row hg
    row := hr
    pb := (hg.block P (Array.getElem?_eq_some_iff.1 h.pb).1 (fun e => h.row.ne h.pb e.symm)).trans h.pb
    bel := h.bel.trans (hb.mono h.wB)
    size := Nat.le_trans h.size hb.size
    len := hl, bd := hc }
theorem DoS.p0 (h : DoS W w B S T A n o b P x v M c) : w.cell? ⟨P, 0, none⟩ = some (.int .i64 x.k) := by simp [World.cell?, h.pb, NAct.cells]
theorem DoS.p1 (h : DoS W w B S T A n o b P x v M c) : w.cell? ⟨P, 1, none⟩ = some (.int .i64 x.t) := by simp [World.cell?, h.pb, NAct.cells]
theorem DoS.p2 (h : DoS W w B S T A n o b P x v M c) : w.cell? ⟨P, 2, none⟩ = some (.slice x.ma x.ml.length x.mc) := by simp [World.cell?, h.pb, NAct.cells]
end
/-- A need's number is written. -/
theorem NdRow.set {w : World} {B g cap : Nat} {M : List Nd} {k : Nat} (h : NdRow w B (.slice (some ⟨g, 0, none⟩) M.length cap) M) (hk : k < M.length) (n : Int) :
    NdRow (w.setCell ⟨g, k * 3 + 2, none⟩ (.int .i64 n)) B (.slice (some ⟨g, 0, none⟩) M.length cap) (M.set k ((M.getD k noNd).1, (M.getD k noNd).2.1, n)) := by
  have hr : w.ownsRow B 33 3 (.slice (some ⟨g, 0, none⟩) M.length cap) M.length (flat3 M) := h
  have h1 := hr.stored (k * 3 + 2) (.int .i64 n)
  unfold NdRow
  rw [List.length_set, ← flat3_set M k hk n, Nat.mul_comm 3 k]
  exact h1.1
theorem setCell_grown (W : World) (b i : Nat) (v : Value) : W.grownBy (W.setCell ⟨b, i, none⟩ v) (some b) :=
  ⟨rfl, rfl, rfl, by simp [World.setCell], fun k _ hk => Below.heap_setCell _ _ _ _ (fun e => hk (by rw [e]))⟩
theorem hfz {w : World} {B g n cap : Nat} {M : List Nd} (h : NdRow w B (.slice (some ⟨g, 0, none⟩) n cap) M) (i : Nat) : w.frozen? ⟨g, i, none⟩ = false := by
  rcases h.2 with ⟨e, _⟩ | ⟨q, c, cur, e, _, hg, _⟩
  · cases e
  · injection e with e _ _
    injection e with e
    injection e with e
    subst e
    simp [World.frozen?, hg]
theorem NdRow.cell' {w : World} {B g c : Nat} {v : Value} {M : List Nd} (h : NdRow w B v M) (hv : v = .slice (some ⟨g, 0, none⟩) M.length c) (i : Nat) (hi : i < M.length) : w.cell? ⟨g, i * 3, none⟩ = some (.int .i64 (M.getD i noNd).1) ∧ w.cell? ⟨g, i * 3 + 1, none⟩ = some (.int .i64 (M.getD i noNd).2.1) ∧ w.cell? ⟨g, i * 3 + 2, none⟩ = some (.int .i64 (M.getD i noNd).2.2) := by
  subst hv; exact h.cell i hi
theorem nd_mem {M : List Nd} {k : Nat} (h : k < M.length) : M.getD k noNd ∈ M := by
  rw [List.getD_eq_getElem?_getD, List.getElem?_eq_getElem h]; exact List.getElem_mem h
/-- append to a row of needs, as a step of a region that draws. -/
theorem step_append_nd {ops : Array Oper} {o : Oper} {a : Act} {w : World} {K : Act → World → Prop} {Q : Exit → Act → World → Prop} {E : Prop}
    (hg : o.guard = none) (s x : Operand) (hop : o.op = Op.call { callee := Callee.builtin Builtin.append, args := #[s, x], argTypes := #[27, 27] })
    (B : Nat) (v : Value) (M : List Nd) (ad : Addr) (y : Nd) (c : Nat) (hs : a.eval s = v) (hown : NdRow w B v M) (hx : a.eval x = .slice (some ad) 1 c) (hm : ∀ j u, ([.int .i64 y.1, .int .i64 y.2.1, .int .i64 y.2.2] : List Value)[j]? = some u → w.cell? (ad.add j) = some u) (h10 : M.length ≤ 1000) (hB : B ≤ w.heap.size)
    (hK : ∀ v' w', NdRow w' B v' (M ++ [y]) → w.grownBy w' v.ownBlock → K (a.put o.dst v') w') :
    if Region.wanted o (yielded ops a.tmps) = true then Oper.wp Try.prog o a w K Q else E := by
  have hw : Region.wanted o (yielded ops a.tmps) = true := by simp [Region.wanted, hg]
  rw [if_pos hw]
  obtain ⟨i0, hi, hz0, hz1, hz2⟩ := info_partsNd
  obtain ⟨v', w', hrun, r1, r2, _⟩ := run_append_own (P := Try.prog) w B 27 o.type 33 i0 _ 3 24 Try.underlying27 hi hz0 hz1 hz2 rfl (by decide) v M.length (flat3 M) hown ad 1 c [.int .i64 y.1, .int .i64 y.2.1, .int .i64 y.2.2] rfl hm (by intro u hu; simp at hu; rcases hu with rfl | rfl | rfl <;> rfl) (by unfold maxLen; omega) (by omega) hB
  unfold Oper.wp
  simp [execOp, hop, resolve, invoke, builtin, hs, hx, hrun, Result.andThen]
  refine hK v' w' ?_ r2
  unfold NdRow
  rw [List.length_append, ← flat3_snoc]; exact r1
end Go.Proofs.Ytjjbdkgnkieliaa
