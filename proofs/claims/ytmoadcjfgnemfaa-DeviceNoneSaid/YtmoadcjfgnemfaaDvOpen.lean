/-
  ARGUMENTS OPENED: an act of law 05, a slice of acts; what the reach says of their texts.
-/
import Derived.Test.YtmoadcjfgnemfaaDvActs
import Derived.ProofKit
import Derived.OpenShut
import Derived.Deep.Slices
import Derived.Deep.Fields
import Derived.SizedLaws
namespace Go.Proofs.Ytmoadcjfgnemfaa
open Go.ChangeShapes Go.WideShapes Go.ChangeAt Go.RowKit
section
variable {H : Type} {enc : TypeId × Value → H} {W : World} {n : Nat}
def inReach (l : List Nat) : Prop := l.all (· ≤ reachBytes) = true
set_option maxRecDepth 100000
theorem inReach_append {a b : List Nat} : inReach (a ++ b) ↔ inReach a ∧ inReach b := by unfold inReach; rw [List.all_append, Bool.and_eq_true]
theorem inReach_cons {a : Nat} {b : List Nat} : inReach (a :: b) ↔ a ≤ reachBytes ∧ inReach b := by unfold inReach; rw [List.all_cons, Bool.and_eq_true, decide_eq_true_iff]
theorem weights_all_strs (e : TypeId) : ∀ (ss : List ByteArray), inReach (DataW.weightsAll (H := H) Try.prog e (strs ss)) → ∀ s ∈ ss, s.size ≤ reachBytes
  | [], _ => fun s hs => by cases hs
  | x :: ss, h => by
    have h1 : inReach ([x.data.toList.length] ++ DataW.weightsAll (H := H) Try.prog e (strs ss)) := h
    obtain ⟨h2, h3⟩ := inReach_append.1 h1
    intro s hs
    rcases List.mem_cons.1 hs with rfl | hs
    · have := (inReach_cons.1 h2).1
      rwa [ba_len] at this
    · exact weights_all_strs e ss h3 s hs
theorem weights_strs (ss sp : List ByteArray) (h : inReach ((DataW.slice (strs ss) (strs sp) : DataW H).weights Try.prog 35)) : ∀ s ∈ ss, s.size ≤ reachBytes := by
  unfold DataW.weights at h
  rw [Try.underlying35] at h
  exact weights_all_strs 9 ss (inReach_append.1 (inReach_cons.1 h).2).1
theorem one_int' {c : Value} {y : DataW H × List MemPlace} (h : DataW.trod enc Try.prog W 0 (fun _ => true) true n 3 [c] = some y) : ∃ z, c = .int .i64 z ∧ (Lit.int .i64 z).wf = true := by
  obtain ⟨z, e, _, w⟩ := DataW.trod_int Try.underlying3 h
  exact ⟨z, by simpa using e, w⟩
theorem one_bool' {c : Value} {y : DataW H × List MemPlace} (h : DataW.trod enc Try.prog W 0 (fun _ => true) true n 4 [c] = some y) : ∃ z, c = .bool z := by
  obtain ⟨z, e, _⟩ := DataW.trod_bool Try.underlying4 h
  exact ⟨z, by simpa using e⟩
theorem one_ints {c : Value} {y : DataW H × List MemPlace} (h : DataW.trod enc Try.prog W 0 (fun _ => true) true n 36 [c] = some y) :
    ∃ a l cap, c = .slice a l.length cap ∧ (∀ z ∈ l, (Lit.int .i64 z).wf = true) ∧ l.length ≤ maxLen ∧ IntsAt W a l := by
  rcases open_ints Try.underlying36 Try.underlying3 (show Try.prog.cellsOf 3 = 1 by kernel_rfl) h with ⟨hcs, _⟩ | ⟨a, len, cap, zs, hcs, _, hl, hm, hz, _, hcell, hws⟩
  · simp at hcs
    exact ⟨none, [], 0, hcs, fun n hn => by simp at hn, by simp, .inl rfl⟩
  · simp at hcs
    simp only [if_true] at hz
    have hlen : (zs.take len).length = len := by rw [List.length_take]; omega
    refine ⟨some a, zs.take len, cap, by rw [hlen]; exact hcs, fun n hn => hws n (List.mem_of_mem_take hn), by omega, ?_⟩
    by_cases h0 : len = 0
    · left; subst h0; rfl
    · right
      obtain ⟨b, off, spot⟩ := a
      have hspot : spot = none := by simpa [Addr.add] using World.cell?_spot (hcell 0 (by omega))
      subst hspot
      refine ⟨b, off, rfl, fun i hi => ?_⟩
      rw [hlen] at hi
      have hp : (⟨b, off, none⟩ : Addr).add i = ⟨b, off + i, none⟩ := by unfold Addr.add; split <;> simp_all
      have := hcell i (by omega)
      rw [hp] at this
      rw [this]
      simp [List.getD_eq_getElem?_getD, hi]
theorem one_strs {c : Value} {y : DataW H × List MemPlace} (h : DataW.trod enc Try.prog W 0 (fun _ => true) true n 35 [c] = some y) :
    ∃ a ss cap, c = .slice a ss.length cap ∧ ss.length ≤ maxLen ∧ StrsAt W a ss ∧ (inReach (y.1.weights Try.prog 35) → ∀ s ∈ ss, s.size ≤ reachBytes) := by
  rcases open_strings Try.underlying35 Try.underlying9 (show Try.prog.cellsOf 9 = 1 by kernel_rfl) h with ⟨hcs, _⟩ | ⟨a, len, cap, ss, hcs, _, hl, hm, hz, hx, hcell, hws⟩
  · simp at hcs
    exact ⟨none, [], 0, hcs, by simp, .inl rfl, fun _ s hs => by cases hs⟩
  · simp at hcs
    simp only [if_true] at hz
    have hlen : (ss.take len).length = len := by rw [List.length_take]; omega
    refine ⟨some a, ss.take len, cap, by rw [hlen]; exact hcs, by omega, ?_, fun hr => weights_strs _ _ (by rw [hx] at hr; exact hr)⟩
    by_cases h0 : len = 0
    · left; subst h0; rfl
    · right
      obtain ⟨b, off, spot⟩ := a
      have hspot : spot = none := by simpa [Addr.add] using World.cell?_spot (hcell 0 (by omega))
      subst hspot
      refine ⟨b, off, rfl, fun i hi => ?_⟩
      rw [hlen] at hi
      have hp : (⟨b, off, none⟩ : Addr).add i = ⟨b, off + i, none⟩ := by unfold Addr.add; split <;> simp_all
      have := hcell i (by omega)
      rw [hp] at this
      rw [this]
      simp [List.getD_eq_getElem?_getD, hi]
theorem list5 {α : Type} {cs : List α} (h : cs.length = 5) : ∃ c0 c1 c2 c3 c4, cs = [c0, c1, c2, c3, c4] := by
  match cs, h with
  | [c0, c1, c2, c3, c4], _ => exact ⟨c0, c1, c2, c3, c4, rfl⟩
theorem act_cells : Try.prog.cellsOf 38 = 5 := by kernel_rfl
set_option maxRecDepth 100000 in
theorem da_one {cs : List Value} {y : DataW H × List MemPlace} (hl : cs.length = 5) (h : DataW.trod enc Try.prog W 0 (fun _ => true) true n 38 cs = some y) :
    ∃ x : Da, cs = [.int .i64 x.k, .int .i64 x.n, .bool x.o, .slice x.da x.dl.length x.dc, .slice x.ka x.kl.length x.kc] ∧ (inReach (y.1.weights Try.prog 38) → DaOk W x) := by
  obtain ⟨c0, c1, c2, c3, c4, rfl⟩ := list5 hl
  obtain ⟨xs, m, _, hy, _, hlen, hx⟩ := DataW.trod_struct Try.underlying38 h
  match xs, hlen with
  | [y0, y1, y2, y3, y4], _ =>
    have t0 := hx 0 _ rfl
    have t1 := hx 1 _ rfl
    have t2 := hx 2 _ rfl
    have t3 := hx 3 _ rfl
    have t4 := hx 4 _ rfl
    obtain ⟨k, rfl, w0⟩ := one_int' (c := c0) t0
    obtain ⟨z, rfl, w1⟩ := one_int' (c := c1) t1
    obtain ⟨o, rfl⟩ := one_bool' (c := c2) t2
    obtain ⟨da, dl, dc, rfl, w3, w4, w5⟩ := one_strs (c := c3) t3
    obtain ⟨ka, kl, kc, rfl, w6, w7, w8⟩ := one_ints (c := c4) t4
    refine ⟨⟨k, z, o, da, dl, dc, ka, kl, kc⟩, rfl, fun hr => ⟨w1, w4, fun s hs => Nat.le_trans (w5 ?_ s hs) (Nat.le_of_eq (by unfold reachBytes; rfl)), w3, w8, w6, w7⟩⟩
    rw [hy] at hr
    have h2 : inReach (DataW.weightsEach Try.prog [3, 3, 4, 35, 36] [y0.1, y1.1, y2.1, y3.1, y4.1]) := by
      simp only [List.map_cons, List.map_nil] at hr
      unfold DataW.weights at hr
      rw [Try.underlying38] at hr
      exact hr
    simp only [DataW.weightsEach, inReach_append] at h2
    exact h2.2.2.2.1
theorem da_open {base : Nat} {v : Value} {d : DataW H} {p : List MemPlace} (hv : Value.okWide Try.prog W .any base 38 v) (h : DataW.Trod enc Try.prog W 0 (fun _ => true) true 38 v d p) (hr : inReach (d.weights Try.prog 38)) :
    ∃ x : Da, v = .agg x.cells ∧ DaOk W x := by
  obtain ⟨cs, rfl, hsz⟩ := okWide_struct (P := Try.prog) (w := W) (r := .any) (base := base) (t := 38) (v := v) Try.underlying38 hv
  obtain ⟨fuel, hf⟩ := h
  obtain ⟨x, hx, hok⟩ := da_one (cs := cs.toList) (by simpa using hsz.trans act_cells) (by simpa [Value.cells] using hf)
  refine ⟨x, ?_, hok hr⟩
  congr 1
  apply Array.toList_inj.1
  rw [hx]; rfl
end
end Go.Proofs.Ytmoadcjfgnemfaa
