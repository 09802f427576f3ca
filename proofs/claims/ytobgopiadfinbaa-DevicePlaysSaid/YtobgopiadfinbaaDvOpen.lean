/-
  ARGUMENTS OPENED: an act of law 05, a slice of acts; what the reach says of their texts.
-/
import Derived.Test.YtobgopiadfinbaaDvActs
import Derived.ProofKit
import Derived.OpenShut
import Derived.Deep.Slices
import Derived.Deep.Fields
import Derived.SizedLaws
namespace Go.Proofs.Ytobgopiadfinbaa
open Go.ChangeShapes Go.WideShapes Go.ChangeAt Go.RowKit
section
variable {H : Type} {enc : TypeId × Value → H} {W : World} {n : Nat}
def inReach (l : List Nat) : Prop := l.all (· ≤ reachBytes) = true
set_option maxRecDepth 100000
theorem inReach_append {a b : List Nat} : inReach (a ++ b) ↔ inReach a ∧ inReach b := by unfold inReach; rw [List.all_append, Bool.and_eq_true]
theorem inReach_cons {a : Nat} {b : List Nat} : inReach (a :: b) ↔ a ≤ reachBytes ∧ inReach b := by unfold inReach; rw [List.all_cons, Bool.and_eq_true, decide_eq_true_iff]
theorem weights_all_strs (e : TypeId) : ∀ (ss : List ByteArray), inReach (DataW.weightsAll (H := H) Try.prog e (strs ss)) → ∀ s ∈ ss, s.size ≤ reachBytes
  | [], _ => fun s hs => by cases hs
  | x :: ss, h => by
    have h1 : inReach ([x.data.toList.length] ++ DataW.weightsAll (H := H) Try.prog e (strs ss)) := h
    obtain ⟨h2, h3⟩ := inReach_append.1 h1
    intro s hs
    rcases List.mem_cons.1 hs with rfl | hs
    · have := (inReach_cons.1 h2).1
      rwa [ba_len] at this
    · exact weights_all_strs e ss h3 s hs
theorem weights_strs (ss sp : List ByteArray) (h : inReach ((DataW.slice (strs ss) (strs sp) : DataW H).weights Try.prog 35)) : ∀ s ∈ ss, s.size ≤ reachBytes := by
  unfold DataW.weights at h
  rw [Try.underlying35] at h
  exact weights_all_strs 9 ss (inReach_append.1 (inReach_cons.1 h).2).1
theorem one_int' {c : Value} {y : DataW H × List MemPlace} (h : DataW.trod enc Try.prog W 0 (fun _ => true) true n 3 [c] = some y) : ∃ z, c = .int .i64 z ∧ (Lit.int .i64 z).wf = true := by
  obtain ⟨z, e, _, w⟩ := DataW.trod_int Try.underlying3 h
  exact ⟨z, by simpa using e, w⟩
theorem one_bool' {c : Value} {y : DataW H × List MemPlace} (h : DataW.trod enc Try.prog W 0 (fun _ => true) true n 4 [c] = some y) : ∃ z, c = .bool z := by
  obtain ⟨z, e, _⟩ := DataW.trod_bool Try.underlying4 h
  exact ⟨z, by simpa using e⟩
theorem one_ints {c : Value} {y : DataW H × List MemPlace} (h : DataW.trod enc Try.prog W 0 (fun _ => true) true n 36 [c] = some y) :
    ∃ a l cap, c = .slice a l.length cap ∧ (∀ z ∈ l, (Lit.int .i64 z).wf = true) ∧ l.length ≤ maxLen ∧ IntsAt W a l := by
  rcases open_ints Try.underlying36 Try.underlying3 (show Try.prog.cellsOf 3 = 1 by kernel_rfl) h with ⟨hcs, _⟩ | ⟨a, len, cap, zs, hcs, _, hl, hm, hz, _, hcell, hws⟩
  · simp at hcs
    exact ⟨none, [], 0, hcs, fun n hn => by simp at hn, by simp, .inl rfl⟩
  · simp at hcs
    simp only [if_true] at hz
    have hlen : (zs.take len).length = len := by rw [List.length_take]; omega
    refine ⟨some a, zs.take len, cap, by rw [hlen]; exact hcs, fun n hn => hws n (List.mem_of_mem_take hn), by omega, ?_⟩
    by_cases h0 : len = 0
    · left; subst h0; rfl
    · right
      obtain ⟨b, off, spot⟩ := a
      have hspot : spot = none := by simpa [Addr.add] using World.cell?_spot (hcell 0 (by omega))
      subst hspot
      refine ⟨b, off, rfl, fun i hi => ?_⟩
      rw [hlen] at hi
      have hp : (⟨b, off, none⟩ : Addr).add i = ⟨b, off + i, none⟩ := by unfold Addr.add; split <;> simp_all
      have := hcell i (by omega)
      rw [hp] at this
      rw [this]
      simp [List.getD_eq_getElem?_getD, hi]
theorem one_strs {c : Value} {y : DataW H × List MemPlace} (h : DataW.trod enc Try.prog W 0 (fun _ => true) true n 35 [c] = some y) :
    ∃ a ss cap, c = .slice a ss.length cap ∧ ss.length ≤ maxLen ∧ StrsAt W a ss ∧ (inReach (y.1.weights Try.prog 35) → ∀ s ∈ ss, s.size ≤ reachBytes) := by
  rcases open_strings Try.underlying35 Try.underlying9 (show Try.prog.cellsOf 9 = 1 by kernel_rfl) h with ⟨hcs, _⟩ | ⟨a, len, cap, ss, hcs, _, hl, hm, hz, hx, hcell, hws⟩
  · simp at hcs
    exact ⟨none, [], 0, hcs, by simp, .inl rfl, fun _ s hs => by cases hs⟩
  · simp at hcs
    simp only [if_true] at hz
    have hlen : (ss.take len).length = len := by rw [List.length_take]; omega
    refine ⟨some a, ss.take len, cap, by rw [hlen]; exact hcs, by omega, ?_, fun hr => weights_strs _ _ (by rw [hx] at hr; exact hr)⟩
    by_cases h0 : len = 0
    · left; subst h0; rfl
    · right
      obtain ⟨b, off, spot⟩ := a
      have hspot : spot = none := by simpa [Addr.add] using World.cell?_spot (hcell 0 (by omega))
      subst hspot
      refine ⟨b, off, rfl, fun i hi => ?_⟩
      rw [hlen] at hi
      have hp : (⟨b, off, none⟩ : Addr).add i = ⟨b, off + i, none⟩ := by unfold Addr.add; split <;> simp_all
      have := hcell i (by omega)
      rw [hp] at this
      rw [this]
      simp [List.getD_eq_getElem?_getD, hi]
theorem list5 {α : Type} {cs : List α} (h : cs.length = 5) : ∃ c0 c1 c2 c3 c4, cs = [c0, c1, c2, c3, c4] := by
  match cs, h with
  | [c0, c1, c2, c3, c4], _ => exact ⟨c0, c1, c2, c3, c4, rfl⟩
theorem act_cells : Try.prog.cellsOf 38 = 5 := by kernel_rfl
set_option maxRecDepth 100000 in
theorem da_one {cs : List Value} {y : DataW H × List MemPlace} (hl : cs.length = 5) (h : DataW.trod enc Try.prog W 0 (fun _ => true) true n 38 cs = some y) :
    ∃ x : Da, cs = [.int .i64 x.k, .int .i64 x.n, .bool x.o, .slice x.da x.dl.length x.dc, .slice x.ka x.kl.length x.kc] ∧ (inReach (y.1.weights Try.prog 38) → DaOk W x) := by
  obtain ⟨c0, c1, c2, c3, c4, rfl⟩ := list5 hl
  obtain ⟨xs, m, _, hy, _, hlen, hx⟩ := DataW.trod_struct Try.underlying38 h
  match xs, hlen with
  | [y0, y1, y2, y3, y4], _ =>
    have t0 := hx 0 _ rfl
    have t1 := hx 1 _ rfl
    have t2 := hx 2 _ rfl
    have t3 := hx 3 _ rfl
    have t4 := hx 4 _ rfl
    obtain ⟨k, rfl, w0⟩ := one_int' (c := c0) t0
    obtain ⟨z, rfl, w1⟩ := one_int' (c := c1) t1
    obtain ⟨o, rfl⟩ := one_bool' (c := c2) t2
    obtain ⟨da, dl, dc, rfl, w3, w4, w5⟩ := one_strs (c := c3) t3
    obtain ⟨ka, kl, kc, rfl, w6, w7, w8⟩ := one_ints (c := c4) t4
    refine ⟨⟨k, z, o, da, dl, dc, ka, kl, kc⟩, rfl, fun hr => ⟨w1, w4, fun s hs => Nat.le_trans (w5 ?_ s hs) (Nat.le_of_eq (by unfold reachBytes; rfl)), w3, w8, w6, w7⟩⟩
    rw [hy] at hr
    have h2 : inReach (DataW.weightsEach Try.prog [3, 3, 4, 35, 36] [y0.1, y1.1, y2.1, y3.1, y4.1]) := by
      simp only [List.map_cons, List.map_nil] at hr
      unfold DataW.weights at hr
      rw [Try.underlying38] at hr
      exact hr
    simp only [DataW.weightsEach, inReach_append] at h2
    exact h2.2.2.2.1
theorem da_open {base : Nat} {v : Value} {d : DataW H} {p : List MemPlace} (hv : Value.okWide Try.prog W .any base 38 v) (h : DataW.Trod enc Try.prog W 0 (fun _ => true) true 38 v d p) (hr : inReach (d.weights Try.prog 38)) :
    ∃ x : Da, v = .agg x.cells ∧ DaOk W x := by
  obtain ⟨cs, rfl, hsz⟩ := okWide_struct (P := Try.prog) (w := W) (r := .any) (base := base) (t := 38) (v := v) Try.underlying38 hv
  obtain ⟨fuel, hf⟩ := h
  obtain ⟨x, hx, hok⟩ := da_one (cs := cs.toList) (by simpa using hsz.trans act_cells) (by simpa [Value.cells] using hf)
  refine ⟨x, ?_, hok hr⟩
  congr 1
  apply Array.toList_inj.1
  rw [hx]; rfl
theorem list_of {P : Nat → Da → Prop} (m : Nat) (h : ∀ i, i < m → ∃ x, P i x) : ∃ A : List Da, A.length = m ∧ ∀ i, i < m → P i (A.getD i noDa) := by
  induction m with
  | zero => exact ⟨[], rfl, fun i hi => by omega⟩
  | succ m ih =>
    obtain ⟨A, hl, hp⟩ := ih (fun i hi => h i (by omega))
    obtain ⟨x, hx⟩ := h m (by omega)
    refine ⟨A ++ [x], by simp [hl], fun i hi => ?_⟩
    rw [List.getD_eq_getElem?_getD]
    by_cases e : i < m
    · rw [List.getElem?_append_left (by omega), ← List.getD_eq_getElem?_getD]; exact hp i e
    · have : i = m := by omega
      subst this
      rw [List.getElem?_append_right (by omega), hl]; simpa using hx
theorem weightsAll_mem (e : TypeId) : ∀ (l : List (DataW H)), inReach (DataW.weightsAll Try.prog e l) → ∀ d ∈ l, inReach (d.weights Try.prog e)
  | [], _ => fun d hd => by cases hd
  | x :: l, h => by
    have h1 : inReach (x.weights Try.prog e ++ DataW.weightsAll Try.prog e l) := h
    obtain ⟨h2, h3⟩ := inReach_append.1 h1
    intro d hd
    rcases List.mem_cons.1 hd with rfl | hd
    · exact h2
    · exact weightsAll_mem e l h3 d hd
theorem das_open {base : Nat} {v : Value} {d : DataW H} {p : List MemPlace} (hv : Value.okWide Try.prog W .any base 22 v) (h : DataW.Trod enc Try.prog W 0 (fun _ => true) true 22 v d p) (hr : inReach (d.weights Try.prog 22)) :
    ∃ (a : Option Addr) (A : List Da) (cap : Nat), v = .slice a A.length cap ∧ A.length ≤ maxLen ∧ DasAt W a A := by
  obtain ⟨a0, len, cap, rfl⟩ := okWide_slice Try.underlying22 hv
  obtain ⟨fuel, hf⟩ := h
  rcases Go.Deep.open_slice Try.underlying22 hf with ⟨hcs, _⟩ | ⟨a, len', cap', m, k, Dt, Pl, hcs, _, hl, hm, hmm, hx, hi⟩
  · simp [Value.cells] at hcs
    obtain ⟨rfl, rfl, rfl⟩ := hcs
    exact ⟨none, [], 0, rfl, by simp, fun x hx => by simp at hx, .inl rfl⟩
  · simp [Value.cells] at hcs
    obtain ⟨rfl, rfl, rfl⟩ := hcs
    simp only [if_true] at hmm
    rw [act_cells] at hi
    have hw : ∀ i, i < len → inReach ((Dt i).weights Try.prog 38) := fun i hil => by
      have e : d = .slice ((List.range len).map Dt) ((List.range (m - len)).map fun j => Dt (len + j)) := congrArg Prod.fst hx
      rw [e] at hr
      unfold DataW.weights at hr
      rw [Try.underlying22] at hr
      exact weightsAll_mem _ _ (inReach_append.1 (inReach_cons.1 hr).2).1 _ (List.mem_map.2 ⟨i, List.mem_range.2 hil, rfl⟩)
    by_cases h0 : len = 0
    · subst h0
      exact ⟨some a, [], cap, rfl, by simp, fun x hx => by simp at hx, .inl rfl⟩
    · have hone : ∀ i, i < len → ∃ x : Da, DaOk W x ∧ ∀ j u, ([.int .i64 x.k, .int .i64 x.n, .bool x.o, .slice x.da x.dl.length x.dc, .slice x.ka x.kl.length x.kc] : List Value)[j]? = some u → W.cell? ((a.add (i * 5)).add j) = some u := fun i hil => by
        obtain ⟨cs', hc, ht⟩ := hi i (by omega)
        obtain ⟨_, hcl, hat⟩ := World.cells?_some hc
        obtain ⟨x, hx, hok⟩ := da_one hcl ht
        refine ⟨x, hok (hw i hil), fun j u hj => ?_⟩
        have hjl : j < 5 := by
          obtain ⟨hlt, _⟩ := List.getElem?_eq_some_iff.1 hj
          simpa using hlt
        rw [hat j hjl, hx]; exact hj
      obtain ⟨A, hA, hP⟩ := list_of len hone
      obtain ⟨b, off, spot⟩ := a
      have hspot : spot = none := by
        have h1 := (hP 0 (by omega)).2 0 _ rfl
        simpa [Addr.add] using World.cell?_spot h1
      subst hspot
      have hp : ∀ i j, ((⟨b, off, none⟩ : Addr).add i).add j = ⟨b, off + i + j, none⟩ := fun i j => by unfold Addr.add; split <;> split <;> simp_all
      refine ⟨some ⟨b, off, none⟩, A, cap, by rw [hA], by omega, fun x hx => ?_, .inr ⟨b, off, rfl, fun i hil => ?_⟩⟩
      · obtain ⟨i, hil, rfl⟩ := List.getElem_of_mem hx
        have := (hP i (by omega)).1
        rwa [List.getD_eq_getElem?_getD, List.getElem?_eq_getElem hil] at this
      · have h1 := (hP i (by omega)).2
        refine ⟨?_, ?_, ?_, ?_, ?_⟩
        · have := h1 0 _ rfl; rwa [hp] at this
        · have := h1 1 _ rfl; rwa [hp] at this
        · have := h1 2 _ rfl; rwa [hp] at this
        · have := h1 3 _ rfl; rwa [hp] at this
        · have := h1 4 _ rfl; rwa [hp] at this
theorem sts_open {base : Nat} {v : Value} {d : DataW H} {p : List MemPlace} (hv : Value.okWide Try.prog W .any base 35 v) (h : DataW.Trod enc Try.prog W 0 (fun _ => true) true 35 v d p) :
    ∃ (a : Option Addr) (ss : List ByteArray) (cap : Nat), v = .slice a ss.length cap ∧ ss.length ≤ maxLen ∧ StrsAt W a ss := by
  obtain ⟨a0, len, cap, rfl⟩ := okWide_slice Try.underlying35 hv
  obtain ⟨fuel, hf⟩ := h
  obtain ⟨a, ss, c, e, h1, h2, _⟩ := one_strs (c := .slice a0 len cap) (by simpa [Value.cells] using hf)
  exact ⟨a, ss, c, e, h1, h2⟩
end
end Go.Proofs.Ytobgopiadfinbaa
