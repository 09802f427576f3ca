/-
  ARGUMENTS OPENED: an act of law 06, a slice of acts.
-/
import Derived.Test.YtckhdknehdjhoaaDoorArActs
import Derived.Test.YtckhdknehdjhoaaDoorDvOpenD
namespace Go.Proofs.YtckhdknehdjhoaaDoor
open Go.ChangeShapes Go.WideShapes Go.ChangeAt Go.RowKit
section
variable {H : Type} {enc : TypeId × Value → H} {W : World} {n : Nat}
set_option maxRecDepth 100000
theorem one_strs6 {c : Value} {y : DataW H × List MemPlace} (h : DataW.trod enc Tryd.prog W 0 (fun _ => true) true n 31 [c] = some y) :
    ∃ a ss cap, c = .slice a ss.length cap ∧ ss.length ≤ maxLen ∧ StrsAt W a ss ∧ (inReach (y.1.weights Tryd.prog 31) → ∀ s ∈ ss, s.size ≤ reachBytes) ∧ ss.length ≤ cap := by
  rcases open_strings Tryd.underlying31 Tryd.underlying9 (show Tryd.prog.cellsOf 9 = 1 by kernel_rfl) h with ⟨hcs, _⟩ | ⟨a, len, cap, ss, hcs, _, hl, hm, hz, hx, hcell, hws⟩
  · simp at hcs
    exact ⟨none, [], 0, hcs, by simp, .inl rfl, (fun _ s hs => by cases hs), by simp⟩
  · simp at hcs
    simp only [if_true] at hz
    have hlen : (ss.take len).length = len := by rw [List.length_take]; omega
    refine ⟨some a, ss.take len, cap, by rw [hlen]; exact hcs, by omega, ?_, (fun hr => weights_strs _ _ (by rw [hx] at hr; exact hr)), by omega⟩
    by_cases h0 : len = 0
    · left; subst h0; rfl
    · right
      obtain ⟨b, off, spot⟩ := a
      have hspot : spot = none := by simpa [Addr.add] using World.cell?_spot (hcell 0 (by omega))
      subst hspot
      refine ⟨b, off, rfl, fun i hi => ?_⟩
      rw [hlen] at hi
      have hp : (⟨b, off, none⟩ : Addr).add i = ⟨b, off + i, none⟩ := by unfold Addr.add; split <;> simp_all
      have := hcell i (by omega)
      rw [hp] at this
      rw [this]
      simp [List.getD_eq_getElem?_getD, hi]
theorem act6_cells : Tryd.prog.cellsOf 34 = 5 := by kernel_rfl
set_option maxRecDepth 100000 in
theorem aa_one {cs : List Value} {y : DataW H × List MemPlace} (hl : cs.length = 5) (h : DataW.trod enc Tryd.prog W 0 (fun _ => true) true n 34 cs = some y) :
    ∃ x : Aa, cs = [.int .i64 x.k, .int .i64 x.n, .int .i64 x.o, .slice x.da x.dl.length x.dc, .slice x.ka x.kl.length x.kc] ∧ (inReach (y.1.weights Tryd.prog 34) → AaOk W x) := by
  obtain ⟨c0, c1, c2, c3, c4, rfl⟩ := list5 hl
  obtain ⟨xs, m, _, hy, _, hlen, hx⟩ := DataW.trod_struct Tryd.underlying34 h
  match xs, hlen with
  | [y0, y1, y2, y3, y4], _ =>
    have t0 := hx 0 _ rfl
    have t1 := hx 1 _ rfl
    have t2 := hx 2 _ rfl
    have t3 := hx 3 _ rfl
    have t4 := hx 4 _ rfl
    obtain ⟨k, rfl, w0⟩ := one_int' (c := c0) t0
    obtain ⟨z, rfl, w1⟩ := one_int' (c := c1) t1
    obtain ⟨o, rfl, w2⟩ := one_int' (c := c2) t2
    obtain ⟨da, dl, dc, rfl, w3, w4, w5, w9⟩ := one_strs6 (c := c3) t3
    obtain ⟨ka, kl, kc, rfl, w6, w7, w8⟩ := one_ints (c := c4) t4
    refine ⟨⟨k, z, o, da, dl, dc, ka, kl, kc⟩, rfl, fun hr => ⟨w1, w4, fun s hs => Nat.le_trans (w5 ?_ s hs) (Nat.le_of_eq (by unfold reachBytes; rfl)), w3, w9, w8, w6, w7⟩⟩
    rw [hy] at hr
    have h2 : inReach (DataW.weightsEach Tryd.prog [3, 3, 3, 31, 32] [y0.1, y1.1, y2.1, y3.1, y4.1]) := by
      simp only [List.map_cons, List.map_nil] at hr
      unfold DataW.weights at hr
      rw [Tryd.underlying34] at hr
      exact hr
    simp only [DataW.weightsEach, inReach_append] at h2
    exact h2.2.2.2.1
theorem aa_open {base : Nat} {v : Value} {d : DataW H} {p : List MemPlace} (hv : Value.okWide Tryd.prog W .any base 34 v) (h : DataW.Trod enc Tryd.prog W 0 (fun _ => true) true 34 v d p) (hr : inReach (d.weights Tryd.prog 34)) :
    ∃ x : Aa, v = .agg x.cells ∧ AaOk W x := by
  obtain ⟨cs, rfl, hsz⟩ := okWide_struct (P := Tryd.prog) (w := W) (r := .any) (base := base) (t := 34) (v := v) Tryd.underlying34 hv
  obtain ⟨fuel, hf⟩ := h
  obtain ⟨x, hx, hok⟩ := aa_one (cs := cs.toList) (by simpa using hsz.trans act6_cells) (by simpa [Value.cells] using hf)
  refine ⟨x, ?_, hok hr⟩
  congr 1
  apply Array.toList_inj.1
  rw [hx]; rfl
theorem list_of6 {P : Nat → Aa → Prop} (m : Nat) (h : ∀ i, i < m → ∃ x, P i x) : ∃ A : List Aa, A.length = m ∧ ∀ i, i < m → P i (A.getD i noAa) := by
  induction m with
  | zero => exact ⟨[], rfl, fun i hi => by omega⟩
  | succ m ih =>
    obtain ⟨A, hl, hp⟩ := ih (fun i hi => h i (by omega))
    obtain ⟨x, hx⟩ := h m (by omega)
    refine ⟨A ++ [x], by simp [hl], fun i hi => ?_⟩
    rw [List.getD_eq_getElem?_getD]
    by_cases e : i < m
    · rw [List.getElem?_append_left (by omega), ← List.getD_eq_getElem?_getD]; exact hp i e
    · have : i = m := by omega
      subst this
      rw [List.getElem?_append_right (by omega), hl]; simpa using hx
theorem aas_open {base : Nat} {v : Value} {d : DataW H} {p : List MemPlace} (hv : Value.okWide Tryd.prog W .any base 22 v) (h : DataW.Trod enc Tryd.prog W 0 (fun _ => true) true 22 v d p) (hr : inReach (d.weights Tryd.prog 22)) :
    ∃ (a : Option Addr) (A : List Aa) (cap : Nat), v = .slice a A.length cap ∧ A.length ≤ maxLen ∧ AasAt W a A := by
  obtain ⟨a0, len, cap, rfl⟩ := okWide_slice Tryd.underlying22 hv
  obtain ⟨fuel, hf⟩ := h
  rcases Go.Deep.open_slice Tryd.underlying22 hf with ⟨hcs, _⟩ | ⟨a, len', cap', m, k, Dt, Pl, hcs, _, hl, hm, hmm, hx, hi⟩
  · simp [Value.cells] at hcs
    obtain ⟨rfl, rfl, rfl⟩ := hcs
    exact ⟨none, [], 0, rfl, by simp, fun x hx => by simp at hx, .inl rfl⟩
  · simp [Value.cells] at hcs
    obtain ⟨rfl, rfl, rfl⟩ := hcs
    simp only [if_true] at hmm
    rw [act6_cells] at hi
    have hw : ∀ i, i < len → inReach ((Dt i).weights Tryd.prog 34) := fun i hil => by
      have e : d = .slice ((List.range len).map Dt) ((List.range (m - len)).map fun j => Dt (len + j)) := congrArg Prod.fst hx
      rw [e] at hr
      unfold DataW.weights at hr
      rw [Tryd.underlying22] at hr
      exact weightsAll_mem _ _ (inReach_append.1 (inReach_cons.1 hr).2).1 _ (List.mem_map.2 ⟨i, List.mem_range.2 hil, rfl⟩)
    by_cases h0 : len = 0
    · subst h0
      exact ⟨some a, [], cap, rfl, by simp, fun x hx => by simp at hx, .inl rfl⟩
    · have hone : ∀ i, i < len → ∃ x : Aa, AaOk W x ∧ ∀ j u, ([.int .i64 x.k, .int .i64 x.n, .int .i64 x.o, .slice x.da x.dl.length x.dc, .slice x.ka x.kl.length x.kc] : List Value)[j]? = some u → W.cell? ((a.add (i * 5)).add j) = some u := fun i hil => by
        obtain ⟨cs', hc, ht⟩ := hi i (by omega)
        obtain ⟨_, hcl, hat⟩ := World.cells?_some hc
        obtain ⟨x, hx, hok⟩ := aa_one hcl ht
        refine ⟨x, hok (hw i hil), fun j u hj => ?_⟩
        have hjl : j < 5 := by
          obtain ⟨hlt, _⟩ := List.getElem?_eq_some_iff.1 hj
          simpa using hlt
        rw [hat j hjl, hx]; exact hj
      obtain ⟨A, hA, hP⟩ := list_of6 len hone
      obtain ⟨b, off, spot⟩ := a
      have hspot : spot = none := by
        have h1 := (hP 0 (by omega)).2 0 _ rfl
        simpa [Addr.add] using World.cell?_spot h1
      subst hspot
      have hp : ∀ i j, ((⟨b, off, none⟩ : Addr).add i).add j = ⟨b, off + i + j, none⟩ := fun i j => by unfold Addr.add; split <;> split <;> simp_all
      refine ⟨some ⟨b, off, none⟩, A, cap, by rw [hA], by omega, fun x hx => ?_, .inr ⟨b, off, rfl, fun i hil => ?_⟩⟩
      · obtain ⟨i, hil, rfl⟩ := List.getElem_of_mem hx
        have := (hP i (by omega)).1
        rwa [List.getD_eq_getElem?_getD, List.getElem?_eq_getElem hil] at this
      · have h1 := (hP i (by omega)).2
        refine ⟨?_, ?_, ?_, ?_, ?_⟩
        · have := h1 0 _ rfl; rwa [hp] at this
        · have := h1 1 _ rfl; rwa [hp] at this
        · have := h1 2 _ rfl; rwa [hp] at this
        · have := h1 3 _ rfl; rwa [hp] at this
        · have := h1 4 _ rfl; rwa [hp] at this
end
end Go.Proofs.YtckhdknehdjhoaaDoor
