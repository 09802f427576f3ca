/-
  ROWS OF FRAMES; THE CONTRACTS OF quadrigalaw03.told AND quadrigaref03.Same (of two rows that read alike).
-/
import Derived.Test.YtpfgdmjgeelobaaDoorFrRefChain
import Derived.BigRegion
namespace Go.Proofs.YtpfgdmjgeelobaaDoor
open Go.RowKit Crc

def noFr : Fr := ⟨0, 0, 0, ByteArray.empty⟩
/-- A slice of frames that reads as these: nothing is asked where there is none. -/
def FrsAt (w : World) (a : Option Addr) (l : List Fr) : Prop :=
  l = [] ∨ ∃ b off, a = some ⟨b, off, none⟩ ∧ ∀ i, i < l.length → w.cell? ⟨b, off + i * 4, none⟩ = some (.int .i64 (l.getD i noFr).e) ∧ w.cell? ⟨b, off + i * 4 + 1, none⟩ = some (.int .i64 (l.getD i noFr).a) ∧
    w.cell? ⟨b, off + i * 4 + 2, none⟩ = some (.int .i64 (l.getD i noFr).g) ∧ w.cell? ⟨b, off + i * 4 + 3, none⟩ = some (.string (l.getD i noFr).d)
theorem FrsAt.keep {w w' : World} {a : Option Addr} {l : List Fr} (h : FrsAt w a l) (hk : ∀ (p : Addr) (v : Value), w.cell? p = some v → w'.cell? p = some v) : FrsAt w' a l := by
  rcases h with h | ⟨b, off, e, h⟩
  · exact .inl h
  · exact .inr ⟨b, off, e, fun i hi => ⟨hk _ _ (h i hi).1, hk _ _ (h i hi).2.1, hk _ _ (h i hi).2.2.1, hk _ _ (h i hi).2.2.2⟩⟩
theorem FrsAt.below {w w' : World} {a : Option Addr} {l : List Fr} (h : FrsAt w a l) (hb : Below w.heap.size w w') : FrsAt w' a l := h.keep fun _ _ hc => keep_cell hb hc
theorem flat_get (l : List Fr) : ∀ (i j : Nat), i < l.length → j < 4 → (flat l)[i * 4 + j]? = (l.getD i noFr).vals[j]? := by
  induction l with
  | nil => intro i j hi; simp at hi
  | cons f l ih =>
    intro i j hi hj
    cases i with
    | zero =>
      show (f.vals ++ flat l)[0 * 4 + j]? = f.vals[j]?
      rw [Nat.zero_mul, Nat.zero_add, List.getElem?_append_left hj]
    | succ i =>
      show (f.vals ++ flat l)[(i + 1) * 4 + j]? = (l.getD i noFr).vals[j]?
      rw [List.getElem?_append_right (by show 4 ≤ _; omega)]
      rw [show (i + 1) * 4 + j - f.vals.length = i * 4 + j from by show (i + 1) * 4 + j - 4 = _; omega]
      exact ih i j (by simpa using hi) hj
theorem frs_of_own {w : World} {B : Nat} {T : TypeId} {v : Value} {l : List Fr} (h : w.ownsRow B T 4 v l.length (flat l)) : ∃ a c, v = .slice a l.length c ∧ FrsAt w a l := by
  rcases h.2 with ⟨hv, h0⟩ | ⟨g, c, cur, hv, _⟩
  · exact ⟨none, 0, by rw [hv, h0], .inl (List.length_eq_zero_iff.1 h0)⟩
  · subst hv
    refine ⟨_, c, rfl, .inr ⟨g, 0, rfl, fun i hi => ?_⟩⟩
    rw [Nat.zero_add]
    refine ⟨?_, ?_, ?_, ?_⟩
    · have := flat_get l i 0 hi (by omega)
      rw [Nat.add_zero] at this
      rw [h.cellAt (i * 4) (by omega), this]; rfl
    · rw [h.cellAt (i * 4 + 1) (by omega), flat_get l i 1 hi (by omega)]; rfl
    · rw [h.cellAt (i * 4 + 2) (by omega), flat_get l i 2 hi (by omega)]; rfl
    · rw [h.cellAt (i * 4 + 3) (by omega), flat_get l i 3 hi (by omega)]; rfl
theorem take_fr (l : List Fr) (k : Nat) (h : k < l.length) : l.take (k + 1) = l.take k ++ [l.getD k noFr] := by
  rw [List.take_succ_eq_append_getElem h]; simp [List.getD_eq_getElem?_getD, h]

set_option maxRecDepth 100000 in
set_option maxHeartbeats 1000000 in
theorem told_any (a : Option Addr) (l : List Fr) (cap : Nat) (w : World) (hl : l.length ≤ 1000) (ha : FrsAt w a l) :
    Calls Tryd.prog 18 #[.slice a l.length cap] w fun x w' => ∃ v, x = .returned v ∧ w'.ownsRow w.heap.size 23 4 v l.length (flat l) ∧ Below w.heap.size w w' := by
  have HA := Lib.hid ha; clear ha
  obtain ⟨i0, hi, hz0, hz1, hz2⟩ := info_parts infoG
  go_enter Tryd.func18, Tryd.ntmps18
  go_wp2
  go_loopw [3, 4] (fun v i wr => ∃ k : Nat, k ≤ l.length ∧ i = .int .i64 k ∧ Hid (wr.ownsRow w.heap.size 23 4 v (l.take k).length (flat (l.take k))) ∧ Below w.heap.size w wr) (fun _ i _ => l.length - (intOf i).toNat)
  case atStart => exact ⟨0, Nat.zero_le _, rfl, World.ownsRow_nil _ _ _ _, Below.refl _ _⟩
  case round =>
    obtain ⟨k, hk, rfl, hown, hbr⟩ := hrel
    by_cases hlt : k < l.length
    · obtain ⟨b, off, rfl, hc⟩ : ∃ b off, a = some ⟨b, off, none⟩ ∧ ∀ i, i < l.length → w.cell? ⟨b, off + i * 4, none⟩ = some (.int .i64 (l.getD i noFr).e) ∧ w.cell? ⟨b, off + i * 4 + 1, none⟩ = some (.int .i64 (l.getD i noFr).a) ∧
          w.cell? ⟨b, off + i * 4 + 2, none⟩ = some (.int .i64 (l.getD i noFr).g) ∧ w.cell? ⟨b, off + i * 4 + 3, none⟩ = some (.string (l.getD i noFr).d) := by
        rcases HA.out with h | h
        · rw [h] at hlt; simp at hlt
        · exact h
      obtain ⟨h0, h1, h2, h3⟩ := hc k hlt
      have c0 := keep_cell hbr h0
      have c1 := keep_cell hbr h1
      have c2 := keep_cell hbr h2
      have c3 := keep_cell hbr h3
      have G1 := Lib.hid (take_fr l k hlt)
      have hll : (l.take k).length = k := by rw [List.length_take]; omega
      clear hc h0 h1 h2 h3
      obtain ⟨f, hf⟩ : ∃ f, f = l.getD k noFr := ⟨_, rfl⟩
      rw [← hf] at c0 c1 c2 c3 G1
      clear hf
      have hown3 := hown.out
      rw [hll] at hown3
      obtain ⟨F, hF⟩ : ∃ F, F = l.take k := ⟨_, rfl⟩
      rw [← hF] at hown3 G1 hll
      have hsz := hbr.size
      have hlo := fun k hk => (hown3.lt k hk)
      clear hown hF
      go_wp2_with (at_builtin; refine wpList_append_own _ rfl _ _ 42 rfl w.heap.size 23 i0 (.agg #[.int .i64 0, .int .i64 0, .int .i64 0, .string ⟨#[]⟩]) 4 40 Tryd.underlying42 hi hz0 hz1 hz2 rfl (by decide) _ _ _ rfl (hown3.alloc _) ⟨wr.heap.size, 0, none⟩ 1 1 [.int .i64 f.e, .int .i64 f.a, .int .i64 f.g, .string f.d] rfl rfl ?c1 ?c2 ?c3 ?c4 ?c5 ?_)
      case c1 =>
        intro j u hj
        match j, hj with
        | 0, hj => simp at hj; subst hj; simp [Addr.add, World.cell?_alloc_at]
        | 1, hj => simp at hj; subst hj; simp [Addr.add, World.cell?_alloc_at]
        | 2, hj => simp at hj; subst hj; simp [Addr.add, World.cell?_alloc_at]
        | 3, hj => simp at hj; subst hj; simp [Addr.add, World.cell?_alloc_at]
      case c2 => intro u hu; simp at hu; rcases hu with rfl | rfl | rfl | rfl <;> rfl
      case c3 => unfold maxLen; omega
      case c4 => omega
      case c5 => rw [World.size_alloc]; omega
      · intro v' w1 hown' hgrow _
        have hbn : Below w.heap.size w w1 := (hbr.alloc hsz _).grown hgrow (by rw [World.size_alloc]; omega) (fun k hk => (hlo k hk).1)
        have hfl : flat F ++ [Value.int .i64 f.e, .int .i64 f.a, .int .i64 f.g, .string f.d] = flat (F ++ [f]) := flat_snoc F f
        have hl2 : k + 1 = (l.take (k + 1)).length := by rw [List.length_take]; omega
        rw [hfl, hl2, ← G1.out] at hown'
        have HON := Lib.hid hown'
        clear hown' hgrow hown3 hfl hl2 hlo
        go_wp2
        go_roundw
        case rel => exact ⟨k + 1, by omega, by go_num, HON.out, hbn⟩
        case measure => simp [intOf]; omega
    · have hfull : l.take k = l := List.take_of_length_le (by omega)
      rw [hfull] at hown
      go_wp2
      go_ret
      exact ⟨_, rfl, hown.out, hbr⟩

set_option maxRecDepth 100000 in
set_option maxHeartbeats 1000000 in
theorem same_any (a b : Option Addr) (l : List Fr) (ca cb : Nat) (w : World) (hl : l.length ≤ 1000) (ha : FrsAt w a l) (hb : FrsAt w b l) :
    Calls Tryd.prog 17 #[.slice a l.length ca, .slice b l.length cb] w fun x w' => x = .returned (.bool true) ∧ Below w.heap.size w w' := by
  have HA := Lib.hid ha; clear ha
  have HB := Lib.hid hb; clear hb
  go_enter Tryd.func17, Tryd.ntmps17
  go_wp2
  go_loopw [5] (fun i wr => ∃ k : Nat, k ≤ l.length ∧ i = .int .i64 k ∧ Below w.heap.size w wr) (fun i _ => l.length - (intOf i).toNat)
  case atStart => exact ⟨0, Nat.zero_le _, rfl, Below.refl _ _⟩
  case round =>
    obtain ⟨k, hk, rfl, hbr⟩ := hrel
    by_cases hlt : k < l.length
    · obtain ⟨b1, o1, rfl, hc⟩ : ∃ b off, a = some ⟨b, off, none⟩ ∧ ∀ i, i < l.length → w.cell? ⟨b, off + i * 4, none⟩ = some (.int .i64 (l.getD i noFr).e) ∧ w.cell? ⟨b, off + i * 4 + 1, none⟩ = some (.int .i64 (l.getD i noFr).a) ∧
          w.cell? ⟨b, off + i * 4 + 2, none⟩ = some (.int .i64 (l.getD i noFr).g) ∧ w.cell? ⟨b, off + i * 4 + 3, none⟩ = some (.string (l.getD i noFr).d) := by
        rcases HA.out with h | h
        · rw [h] at hlt; simp at hlt
        · exact h
      obtain ⟨b2, o2, rfl, hd⟩ : ∃ b' off, b = some ⟨b', off, none⟩ ∧ ∀ i, i < l.length → w.cell? ⟨b', off + i * 4, none⟩ = some (.int .i64 (l.getD i noFr).e) ∧ w.cell? ⟨b', off + i * 4 + 1, none⟩ = some (.int .i64 (l.getD i noFr).a) ∧
          w.cell? ⟨b', off + i * 4 + 2, none⟩ = some (.int .i64 (l.getD i noFr).g) ∧ w.cell? ⟨b', off + i * 4 + 3, none⟩ = some (.string (l.getD i noFr).d) := by
        rcases HB.out with h | h
        · rw [h] at hlt; simp at hlt
        · exact h
      obtain ⟨h0, h1, h2, h3⟩ := hc k hlt
      have c0 := keep_cell hbr h0
      have c1 := keep_cell hbr h1
      have c2 := keep_cell hbr h2
      have c3 := keep_cell hbr h3
      obtain ⟨h0, h1, h2, h3⟩ := hd k hlt
      have d0 := keep_cell hbr h0
      have d1 := keep_cell hbr h1
      have d2 := keep_cell hbr h2
      have d3 := keep_cell hbr h3
      clear hc hd h0 h1 h2 h3
      obtain ⟨f, hf⟩ : ∃ f, f = l.getD k noFr := ⟨_, rfl⟩
      rw [← hf] at c0 c1 c2 c3 d0 d1 d2 d3
      clear hf
      have hk0 : (0 : Int) ≤ (k : Int) := by omega
      have hkl : (k : Int) < (l.length : Int) := by omega
      go_wp2_with fail
      go_quiet (fail)
      go_wp2
      go_roundw
      case rel => exact ⟨k + 1, by omega, by go_num, below_drewN hbr _⟩
      case measure => simp [intOf]; omega
    · go_wp2
      go_ret
      exact ⟨rfl, hbr⟩
end Go.Proofs.YtpfgdmjgeelobaaDoor
