/-
  THE CONTRACTS OF tally.of AND tally.add.
-/
import Derived.Test.YtjjbdkgnkieliaaSpOut
import Derived.IntWalk
namespace Go.Proofs.Ytjjbdkgnkieliaa
open Go.RowKit Go.Maps Go.ChangeMaps Go.MapKept Go.WideElems
theorem wfb {z : Int} (h : (Lit.int .i64 z).wf = true) : -9223372036854775808 ≤ z ∧ z ≤ 9223372036854775807 := by
  have e1 : IntKind.i64.min = -9223372036854775808 := by decide
  have e2 : IntKind.i64.max = 9223372036854775807 := by decide
  simp [Lit.wf, e1, e2] at h
  omega
theorem wrap_of_wf {z : Int} (h : (Lit.int .i64 z).wf = true) : IntKind.i64.wrap z = z := IntWalk.i64_in _ (wfb h)
theorem of_any {W : World} {M n : Nat} {f : Int → Int} {p : Int → Bool} (h : TalW W M n f p) (i : Int) (hi : (Lit.int .i64 i).wf = true) :
    Calls Try.prog 22 #[.map (some M), .int .i64 i] W fun e w' => e = .returned (.int .i64 (f i)) ∧ W = w' := by
  have hl := h.look i hi
  clear h
  go_enter Try.func22, Try.ntmps22
  go_wp2
  go_ret
  exact ⟨rfl, rfl⟩
theorem of_nil (W : World) (i : Int) (hi : (Lit.int .i64 i).wf = true) :
    Calls Try.prog 22 #[.map none, .int .i64 i] W fun e w' => e = .returned (.int .i64 0) ∧ W = w' := by
  have hl := look_nil_tal W i hi
  go_enter Try.func22, Try.ntmps22
  go_wp2
  go_ret
  exact ⟨rfl, rfl⟩
/-- What add leaves. -/
def AddP (W : World) (M n : Nat) (f : Int → Int) (e : Ending) (w' : World) : Prop := e = .returned (.tuple #[]) ∧ TalAt w' M n f ∧ W.grownBy w' (some M) ∧ w'.heap.size = W.heap.size
set_option maxHeartbeats 1000000 in
theorem add_any {W : World} {M n : Nat} {f : Int → Int} (h : TalAt W M n f) (i : Int) (hi : (Lit.int .i64 i).wf = true) (z : Int) (hs : (Lit.int .i64 (f i + z)).wf = true) (hn : n < maxLen) :
    Calls Try.prog 25 #[.map (some M), .int .i64 i, .int .i64 z] W (AddP W M (n + 1) (updI f i (f i + z))) := by
  have hl := h.look i hi
  obtain ⟨s, hsum⟩ : ∃ s, s = f i + z := ⟨_, rfl⟩
  have hwr : IntKind.i64.wrap (f i + z) = s := by rw [hsum]; exact wrap_of_wf hs
  obtain ⟨W1, hst, h1, hg1, hz1⟩ := h.store i hi s (by rw [hsum]; exact hs) hn
  have hl1 := h1.look i hi
  have e1 : updI f i s i = s := by unfold updI; rw [if_pos rfl]
  rw [e1] at hl1
  have hP : ∀ k, updB (fun i => decide (f i ≠ 0)) i true k = if k = i then true else decide (f k ≠ 0) := fun k => rfl
  have hsum' := Lib.hid hsum
  by_cases h0 : s = 0
  · obtain ⟨W2, hd, h2, hg2, hz2⟩ := h1.drop i hi 0
    have hT : TalAt W2 M (n + 1) (updI f i s) := by
      obtain ⟨D, d1, d2, d3⟩ := h2
      refine ⟨D, d1, fun k => ?_, fun k => ?_⟩
      · rw [d2 k]; unfold updI; by_cases e : k = i <;> simp [e, h0]
      · rw [d3 k]; unfold updB updI; by_cases e : k = i <;> simp [e, h0]
    have hG : W.grownBy W2 (some M) := hg1.andThen hg2 (fun j e => .inr e)
    have HT := Lib.hid hT
    have HG := Lib.hid hG
    have HZ := Lib.hid (hz2.trans hz1)
    clear hT hG h2 hg2 h1 hg1 h hz1 hz2 hP
    subst h0
    rw [← hsum]
    clear hsum e1
    go_enter Try.func25, Try.ntmps25
    go_wp2
    exact bodyPost_end (v := .tuple #[]) (by simp [results, Try.results25]) rfl ⟨rfl, HT.out, HG.out, HZ.out⟩
  · have hT : TalAt W1 M (n + 1) (updI f i s) := by
      obtain ⟨D, d1, d2, d3⟩ := h1
      refine ⟨D, d1, d2, fun k => ?_⟩
      rw [d3 k]; unfold updB updI; by_cases e : k = i <;> simp [e, h0]
    have HT := Lib.hid hT
    have HG := Lib.hid hg1
    have HZ := Lib.hid hz1
    clear hT hg1 h1 h hz1 hP
    rw [← hsum]
    clear hsum e1
    have h0' : (s == 0) = false := by simpa using h0
    go_enter Try.func25, Try.ntmps25
    go_wp2
    exact bodyPost_end (v := .tuple #[]) (by simp [results, Try.results25]) rfl ⟨rfl, HT.out, HG.out, HZ.out⟩
end Go.Proofs.Ytjjbdkgnkieliaa
