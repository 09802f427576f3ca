/-
  SpaceNotes: does, of any act; sums of a part of the list; acts opened.
-/
import Derived.Test.YtjjbdkgnkieliaaSpDoesT
import Derived.Test.YtjjbdkgnkieliaaSpDoesU
import Derived.ProofKit
import Derived.OpenShut
import Derived.Deep.Slices
import Derived.Deep.Fields
namespace Go.Proofs.Ytjjbdkgnkieliaa
open Go.RowKit
theorem NtS.mono {W w : World} {B S T A n n' : Nat} {v : Value} {L : List Nd} {o : Int → Option Nat} {b : Book} (h : NtS W w B S T A n v L o b) (hn : n ≤ n') : NtS W w B S T A n' v L o b := { h with sp := h.sp.mono hn }
/-- The law's state, somewhere. -/
def NtE (W w : World) (B S T A n m : Nat) (v : Value) : Prop := ∃ L o b, NtS W w B S T A n v L o b ∧ L.length ≤ m
theorem does_any {W w : World} {B S T A n m : Nat} {v : Value} (h : NtE W w B S T A n m v) (x : NAct) (hx : NAOk W x) (hn : n ≤ 90000) (hm : m ≤ 800) (h10 : x.ml.length ≤ 10) :
    Calls Try.prog 10 #[.pointer (some ⟨S, 0, none⟩), v, .agg #[.int .i64 x.k, .int .i64 x.t, .slice x.ma x.ml.length x.mc]] w fun e w' => ∃ v', e = .returned v' ∧ Hid (NtE W w' B S T A (n + 30) (m + 10) v') := by
  obtain ⟨L, o, b, hs, hl⟩ := h
  by_cases h0 : x.k = 0
  · obtain ⟨k, t, ma, ml, mc⟩ := x
    dsimp only at h0
    subst h0
    refine (does_take hs t ma ml mc hx hn (by omega) h10).mono ?_
    rintro e w' ⟨v', o', rfl, h⟩
    have hlen := len_upL t up ml L
    dsimp only at h10
    exact ⟨v', rfl, _, o', _, h.out, by omega⟩
  · by_cases h1 : x.k = 1
    · obtain ⟨k, t, ma, ml, mc⟩ := x
      dsimp only at h1
      subst h1
      refine (does_put hs t ma ml mc hx hn (by omega) h10).mono ?_
      rintro e w' ⟨v', o', rfl, h⟩
      have hlen := len_upL t dn ml L
      dsimp only at h10
      exact ⟨v', rfl, _, o', _, h.out, by omega⟩
    · refine (does_done hs x hx (by omega) (by omega) (by omega)).mono ?_
      rintro e w' ⟨v', o', rfl, h⟩
      have hlen := dropT_len x.t L
      exact ⟨v', rfl, _, o', _, h.out.mono (by omega), by omega⟩
theorem take_snocN (L : List Nd) (k : Nat) (h : k < L.length) : L.take (k + 1) = L.take k ++ [L.getD k noNd] := by
  rw [List.take_succ_eq_append_getElem h]; simp [List.getD_eq_getElem?_getD, h]
theorem sum_append (p : Int) (A B : List Nd) : sumP p (A ++ B) = sumP p A + sumP p B := by
  induction A with
  | nil => show sumP p B = 0 + _; omega
  | cons x A ih =>
    show _ + sumP p (A ++ B) = _ + sumP p A + _
    rw [ih]; omega
theorem sum_part (p : Int) {L : List Nd} (h : ∀ x ∈ L, 0 ≤ x.2.2) (k : Nat) : 0 ≤ sumP p (L.take k) ∧ sumP p (L.take k) ≤ sumP p L := by
  have e : sumP p L = sumP p (L.take k) + sumP p (L.drop k) := by rw [← sum_append, List.take_append_drop]
  have h1 := (nget_le (t := 0) (p := p) (L := L.take k) (fun x hx => h x (List.mem_of_mem_take hx))).1
  have h2 := (nget_le (t := 0) (p := p) (L := L.drop k) (fun x hx => h x (List.mem_of_mem_drop hx))).1
  exact ⟨h1, by omega⟩
theorem sum_step (p : Int) (L : List Nd) (k : Nat) (h : k < L.length) : sumP p (L.take (k + 1)) = sumP p (L.take k) + if (L.getD k noNd).2.1 = p then (L.getD k noNd).2.2 else 0 := by
  rw [take_snocN L k h, sum_append]
  show _ = _
  congr 1
  show _ + 0 = _
  omega
theorem nget_snoc {t p : Int} {A : List Nd} {x : Nd} (hd : Dist (A ++ [x])) : nget t p (A ++ [x]) = if isK t p x then x.2.2 else nget t p A := by
  induction A with
  | nil => rfl
  | cons y A ih =>
    obtain ⟨h1, h2⟩ := List.pairwise_cons.1 (show Dist (y :: (A ++ [x])) from hd)
    show (if isK t p y then y.2.2 else nget t p (A ++ [x])) = if isK t p x then x.2.2 else if isK t p y then y.2.2 else nget t p A
    rw [ih h2]
    by_cases hy : isK t p y
    · have hx : ¬ isK t p x := fun q => h1 x (by simp) ⟨q.1.trans hy.1.symm, q.2.trans hy.2.symm⟩
      rw [if_pos hy, if_neg hx, if_pos hy]
    · rw [if_neg hy, if_neg hy]
theorem nget_step (t p : Int) {L : List Nd} (hd : Dist L) (k : Nat) (h : k < L.length) : nget t p (L.take (k + 1)) = if (L.getD k noNd).2.1 = p then (if (L.getD k noNd).1 = t then (L.getD k noNd).2.2 else nget t p (L.take k)) else nget t p (L.take k) := by
  have hd2 : Dist (L.take k ++ [L.getD k noNd]) := by
    rw [← take_snocN L k h]
    exact hd.sublist (List.take_sublist _ _)
  rw [take_snocN L k h, nget_snoc hd2]
  by_cases h1 : (L.getD k noNd).2.1 = p
  · by_cases h2 : (L.getD k noNd).1 = t
    · rw [if_pos (show isK t p (L.getD k noNd) from ⟨h2, h1⟩), if_pos h1, if_pos h2]
    · rw [if_neg (show ¬ isK t p (L.getD k noNd) from fun q => h2 q.1), if_pos h1, if_neg h2]
  · rw [if_neg (show ¬ isK t p (L.getD k noNd) from fun q => h1 q.2), if_neg h1]
section
open Go.ChangeShapes Go.WideShapes Go.ChangeAt
variable {H : Type} {enc : TypeId × Value → H} {W : World} {n : Nat}
theorem na_int {c : Value} {y : DataW H × List MemPlace} (h : DataW.trod enc Try.prog W 0 (fun _ => true) true n 3 [c] = some y) : ∃ z, c = .int .i64 z ∧ (Lit.int .i64 z).wf = true := by
  obtain ⟨z, e, _, w⟩ := DataW.trod_int Try.underlying3 h
  exact ⟨z, by simpa using e, w⟩
theorem na_ints {c : Value} {y : DataW H × List MemPlace} (h : DataW.trod enc Try.prog W 0 (fun _ => true) true n 29 [c] = some y) :
    ∃ a l cap, c = .slice a l.length cap ∧ Ints64 l ∧ l.length ≤ maxLen ∧ IntsAt W a l := by
  rcases open_ints Try.underlying29 Try.underlying3 (show Try.prog.cellsOf 3 = 1 by kernel_rfl) h with ⟨hcs, _⟩ | ⟨a, len, cap, zs, hcs, _, hl, hm, hz, _, hcell, hws⟩
  · simp at hcs
    exact ⟨none, [], 0, hcs, fun i hi => by simp at hi, by simp, .inl rfl⟩
  · simp at hcs
    simp only [if_true] at hz
    have hlen : (zs.take len).length = len := by rw [List.length_take]; omega
    refine ⟨some a, zs.take len, cap, by rw [hlen]; exact hcs, fun i hi => ?_, by omega, ?_⟩
    · rw [List.getD_eq_getElem?_getD, List.getElem?_eq_getElem hi]
      exact hws _ (List.mem_of_mem_take (List.getElem_mem hi))
    · by_cases h0 : len = 0
      · left; subst h0; rfl
      · right
        obtain ⟨b, off, spot⟩ := a
        have hspot : spot = none := by simpa [Addr.add] using World.cell?_spot (hcell 0 (by omega))
        subst hspot
        refine ⟨b, off, rfl, fun i hi => ?_⟩
        rw [hlen] at hi
        have hp : (⟨b, off, none⟩ : Addr).add i = ⟨b, off + i, none⟩ := by unfold Addr.add; split <;> simp_all
        have := hcell i (by omega)
        rw [hp] at this
        rw [this]
        simp [List.getD_eq_getElem?_getD, hi]
theorem na_list3 {α : Type} {cs : List α} (h : cs.length = 3) : ∃ c0 c1 c2, cs = [c0, c1, c2] := by
  match cs, h with
  | [c0, c1, c2], _ => exact ⟨c0, c1, c2, rfl⟩
theorem na_cells : Try.prog.cellsOf 31 = 3 := by kernel_rfl
set_option maxRecDepth 100000 in
theorem na_one {cs : List Value} {y : DataW H × List MemPlace} (hl : cs.length = 3) (h : DataW.trod enc Try.prog W 0 (fun _ => true) true n 31 cs = some y) :
    ∃ x : NAct, cs = [.int .i64 x.k, .int .i64 x.t, .slice x.ma x.ml.length x.mc] ∧ NAOk W x := by
  obtain ⟨c0, c1, c2, rfl⟩ := na_list3 hl
  obtain ⟨xs, m, _, _, _, hlen, hx⟩ := DataW.trod_struct Try.underlying31 h
  match xs, hlen with
  | [y0, y1, y2], _ =>
    have t0 := hx 0 _ rfl
    have t1 := hx 1 _ rfl
    have t2 := hx 2 _ rfl
    obtain ⟨k, rfl, w0⟩ := na_int (c := c0) t0
    obtain ⟨t, rfl, w1⟩ := na_int (c := c1) t1
    obtain ⟨ma, ml, mc, rfl, w5, w6, w8⟩ := na_ints (c := c2) t2
    exact ⟨⟨k, t, ma, ml, mc⟩, rfl, ⟨w0, w1, w5, w8, w6⟩⟩
theorem na_list {P : Nat → NAct → Prop} (m : Nat) (h : ∀ i, i < m → ∃ x, P i x) : ∃ L : List NAct, L.length = m ∧ ∀ i, i < m → P i (L.getD i noNA) := by
  induction m with
  | zero => exact ⟨[], rfl, fun i hi => by omega⟩
  | succ m ih =>
    obtain ⟨L, hl, hp⟩ := ih (fun i hi => h i (by omega))
    obtain ⟨x, hx⟩ := h m (by omega)
    refine ⟨L ++ [x], by simp [hl], fun i hi => ?_⟩
    rw [List.getD_eq_getElem?_getD]
    by_cases e : i < m
    · rw [List.getElem?_append_left (by omega), ← List.getD_eq_getElem?_getD]; exact hp i e
    · have : i = m := by omega
      subst this
      rw [List.getElem?_append_right (by omega), hl]; simpa using hx
theorem nas_open {base : Nat} {v : Value} {d : DataW H} {p : List MemPlace} (hv : Value.okWide Try.prog W .any base 22 v) (h : DataW.Trod enc Try.prog W 0 (fun _ => true) true 22 v d p) :
    ∃ (a : Option Addr) (L : List NAct) (cap : Nat), v = .slice a L.length cap ∧ L.length ≤ maxLen ∧ (∀ i, i < L.length → NAOk W (L.getD i noNA)) ∧ NActs W a L := by
  obtain ⟨a0, len, cap, rfl⟩ := okWide_slice Try.underlying22 hv
  obtain ⟨fuel, hf⟩ := h
  rcases Go.Deep.open_slice Try.underlying22 hf with ⟨hcs, _⟩ | ⟨a, len', cap', m, k, D, Pl, hcs, _, hl, hm, hmm, _, hi⟩
  · simp [Value.cells] at hcs
    obtain ⟨rfl, rfl, rfl⟩ := hcs
    exact ⟨none, [], 0, rfl, by simp, fun i hi => by simp at hi, .inl rfl⟩
  · simp [Value.cells] at hcs
    obtain ⟨rfl, rfl, rfl⟩ := hcs
    simp only [if_true] at hmm
    rw [na_cells] at hi
    by_cases h0 : len = 0
    · subst h0
      exact ⟨some a, [], cap, rfl, by simp, fun i hi => by simp at hi, .inl rfl⟩
    · have hone : ∀ i, i < len → ∃ x : NAct, NAOk W x ∧ ∀ j u, ([.int .i64 x.k, .int .i64 x.t, .slice x.ma x.ml.length x.mc] : List Value)[j]? = some u → W.cell? ((a.add (i * 3)).add j) = some u := fun i hil => by
        obtain ⟨cs', hc, ht⟩ := hi i (by omega)
        obtain ⟨_, hcl, hat⟩ := World.cells?_some hc
        obtain ⟨x, hx, hok⟩ := na_one hcl ht
        refine ⟨x, hok, fun j u hj => ?_⟩
        have hjl : j < 3 := by
          obtain ⟨hlt, _⟩ := List.getElem?_eq_some_iff.1 hj
          simpa using hlt
        rw [hat j hjl, hx]; exact hj
      obtain ⟨L, hL, hP⟩ := na_list len hone
      obtain ⟨b, off, spot⟩ := a
      have hspot : spot = none := by
        have h1 := (hP 0 (by omega)).2 0 _ rfl
        simpa [Addr.add] using World.cell?_spot h1
      subst hspot
      have hp : ∀ i j, ((⟨b, off, none⟩ : Addr).add i).add j = ⟨b, off + i + j, none⟩ := fun i j => by unfold Addr.add; split <;> split <;> simp_all
      refine ⟨some ⟨b, off, none⟩, L, cap, by rw [hL], by omega, fun i hil => (hP i (by omega)).1, .inr ⟨b, off, rfl, fun i hil => ?_⟩⟩
      have h1 := (hP i (by omega)).2
      refine ⟨?_, ?_, ?_⟩
      · have := h1 0 _ rfl; rwa [hp] at this
      · have := h1 1 _ rfl; rwa [hp] at this
      · have := h1 2 _ rfl; rwa [hp] at this
end
end Go.Proofs.Ytjjbdkgnkieliaa
