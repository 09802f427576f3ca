/-
  THE WALK OF quadrigalaw01.NumsEnds: it returns true, and writes nothing that was there.
-/
import Derived.Test.YtcdnohgnmfaclaaNumsWake
namespace Go.Proofs.Ytcdnohgnmfaclaa
open Go.RowKit

theorem foldl_max_ge : ∀ (l : List Int) (a : Int), a ≤ l.foldl max a ∧ (∀ x ∈ l, x ≤ l.foldl max a) ∧ (l.foldl max a = a ∨ l.foldl max a ∈ l)
  | [], a => ⟨Int.le_refl _, (fun x hx => by cases hx), Or.inl rfl⟩
  | b :: l, a => by
    obtain ⟨h1, h2, h3⟩ := foldl_max_ge l (max a b)
    rw [List.foldl_cons]
    refine ⟨by omega, fun x hx => ?_, ?_⟩
    · rcases List.mem_cons.1 hx with rfl | hx
      · omega
      · exact h2 x hx
    · rcases h3 with h3 | h3
      · by_cases hab : b ≤ a
        · left; omega
        · right; rw [h3, show max a b = b from by omega]; exact List.mem_cons_self
      · right; exact List.mem_cons_of_mem _ h3
theorem foldl_min_le : ∀ (l : List Int) (a : Int), l.foldl min a ≤ a ∧ (∀ x ∈ l, l.foldl min a ≤ x) ∧ (l.foldl min a = a ∨ l.foldl min a ∈ l)
  | [], a => ⟨Int.le_refl _, (fun x hx => by cases hx), Or.inl rfl⟩
  | b :: l, a => by
    obtain ⟨h1, h2, h3⟩ := foldl_min_le l (min a b)
    rw [List.foldl_cons]
    refine ⟨by omega, fun x hx => ?_, ?_⟩
    · rcases List.mem_cons.1 hx with rfl | hx
      · omega
      · exact h2 x hx
    · rcases h3 with h3 | h3
      · by_cases hab : a ≤ b
        · left; omega
        · right; rw [h3, show min a b = b from by omega]; exact List.mem_cons_self
      · right; exact List.mem_cons_of_mem _ h3

/-- Is one met so far? -/
def met (h a : Int) (l : List Int) : Bool := (h == a) || l.any (h == ·)
theorem met_step (h a : Int) (l : List Int) (k : Nat) (hk : k < l.length) : met h a (l.take (k + 1)) = (met h a (l.take k) || (h == l.getD k 0)) := by
  unfold met
  rw [take_one l k hk, List.any_append]
  simp [Bool.or_assoc]
theorem met_all (h a : Int) (l : List Int) (hh : h = a ∨ h ∈ l) : met h a l = true := by
  unfold met
  rcases hh with rfl | hh
  · simp
  · rw [Bool.or_eq_true]; right
    rw [List.any_eq_true]; exact ⟨h, hh, by simp⟩
theorem met_next (xb : Bool) (h a c : Int) (l : List Int) (k : Nat) (hk : k < l.length) (hc : c = l.getD k 0) (hx : xb = met h a (l.take k)) :
    ∃ nb, Hid (nb = met h a (l.take (k + 1))) ∧ ((xb = true ∧ nb = true) ∨ (xb = false ∧ (h == c) = true ∧ nb = true) ∨ (xb = false ∧ (h == c) = false ∧ nb = false)) := by
  refine ⟨met h a (l.take (k + 1)), rfl, ?_⟩
  rw [met_step h a l k hk, ← hx, ← hc]
  cases xb <;> cases (h == c) <;> simp

/-- The sum so far, and whether it is over. -/
def SumSo (l : List Int) (k : Nat) (ov : Bool) (s : Int) : Prop := if ov then maxInt < posSum (l.take k) else s = posSum (l.take k)
theorem sum_next (l : List Int) (k : Nat) (ov : Bool) (s c : Int) (hk : k < l.length) (hc : c = l.getD k 0) (h : SumSo l k ov s) :
    (c ≤ 0 ∧ Hid (SumSo l (k + 1) ov s)) ∨ (0 < c ∧ ov = true ∧ Hid (SumSo l (k + 1) true s)) ∨ (0 < c ∧ ov = false ∧ 9223372036854775807 - s < c ∧ Hid (SumSo l (k + 1) true s)) ∨
      (0 < c ∧ ov = false ∧ ¬ 9223372036854775807 - s < c ∧ Hid (SumSo l (k + 1) false (s + c))) := by
  have hs := posSum_snoc l k hk
  rw [← hc] at hs
  by_cases hpos : 0 < c
  · rw [if_pos hpos] at hs
    right
    cases ov
    · unfold SumSo at h
      simp only [Bool.false_eq_true, if_false] at h
      right
      by_cases hov : 9223372036854775807 - s < c
      · left
        refine ⟨hpos, rfl, hov, ?_⟩
        rw [Hid]; unfold SumSo maxInt; rw [if_pos rfl, hs]; omega
      · right
        refine ⟨hpos, rfl, hov, ?_⟩
        rw [Hid]; unfold SumSo; rw [if_neg (by simp), hs, h]
    · left
      unfold SumSo at h
      rw [if_pos rfl] at h
      refine ⟨hpos, rfl, ?_⟩
      rw [Hid]; unfold SumSo; rw [if_pos rfl, hs]; omega
  · rw [if_neg hpos] at hs
    left
    refine ⟨by omega, ?_⟩
    rw [Hid]; unfold SumSo at h ⊢; rw [hs]; exact h

set_option maxRecDepth 100000 in
set_option maxHeartbeats 4000000 in
theorem numsEnds_walk (a : Int) (ad : Option Addr) (l : List Int) (cap : Nat) (w : World) (_ha64 : (Lit.int .i64 a).wf = true) (hw : Ints64 l) (hn : l.length ≤ maxLen) (ha : IntsAt w ad l) :
    Calls Try.prog 3 #[.int .i64 a, .slice ad l.length cap] w fun e w' => e = .returned (.bool true) ∧ Below w.heap.size w w' := by
  have HW := Lib.hid hw; clear hw
  by_cases hbig : l.length ≤ 100
  · have hbig' : (l.length : Int) ≤ 100 := by omega
    have HMo := Lib.hid (most_any a ad l cap w hn ha)
    have HLe := Lib.hid (least_any a ad l cap w hn ha)
    have HSu := Lib.hid (sum_any ad l cap w HW.out hn ha)
    have HA := Lib.hid ha; clear ha
    obtain ⟨m1, m2, m3⟩ := foldl_max_ge l a
    obtain ⟨n1, n2, n3⟩ := foldl_min_le l a
    obtain ⟨hi, hhi⟩ : ∃ hi, hi = mostL a l := ⟨_, rfl⟩
    obtain ⟨lo, hlo⟩ : ∃ lo, lo = leastL a l := ⟨_, rfl⟩
    rw [← hhi] at HMo
    rw [← hlo] at HLe
    have q1 : a ≤ hi := by rw [hhi]; exact m1
    have q2 : lo ≤ a := by rw [hlo]; exact n1
    have Q3 : Hid (∀ x ∈ l, x ≤ hi ∧ lo ≤ x) := fun x hx => by rw [hhi, hlo]; exact ⟨m2 x hx, n2 x hx⟩
    have M1 := Lib.hid (met_all hi a l (by rw [hhi]; exact m3))
    have M2 := Lib.hid (met_all lo a l (by rw [hlo]; exact n3))
    clear hhi hlo m1 m2 m3 n1 n2 n3 hn _ha64
    go_enter Try.func3, Try.ntmps3
    go_wp2_with fail
    refine HMo.out.mono ?_
    rintro e w1 ⟨rfl, rfl⟩
    go_wp2_with fail
    refine HLe.out.mono ?_
    rintro e w1 ⟨rfl, rfl⟩
    go_wp2
    go_loop [7, 8, 9, 10, 11] (fun x y s o i => ∃ (k : Nat) (xb yb ov : Bool) (t : Int), k ≤ l.length ∧ i = .int .i64 k ∧ x = .bool xb ∧ y = .bool yb ∧ o = .bool ov ∧ s = .int .i64 t ∧ 0 ≤ t ∧ t ≤ 9223372036854775807 ∧
      Hid (xb = met hi a (l.take k)) ∧ Hid (yb = met lo a (l.take k)) ∧ Hid (SumSo l k ov t)) (fun _ _ _ _ i => l.length - (intOf i).toNat)
    case atStart => exact ⟨0, (hi == a), (lo == a), false, 0, Nat.zero_le _, rfl, rfl, rfl, rfl, rfl, by omega, by omega, by simp [Hid, met], by simp [Hid, met], by simp [Hid, SumSo, posSum]⟩
    case round =>
      obtain ⟨k, xb, yb, ov, t, hk, rfl, rfl, rfl, rfl, rfl, ht0, ht1, hx, hy, hs⟩ := hrel
      by_cases hlt : k < l.length
      · obtain ⟨b, off, rfl, hc⟩ := HA.out.cell hlt
        have hbd := wf_getD HW.out k
        have hmem : l.getD k 0 ∈ l := by rw [List.getD_eq_getElem?_getD, List.getElem?_eq_getElem hlt]; exact List.getElem_mem _
        obtain ⟨hq1, hq2⟩ := Q3.out _ hmem
        obtain ⟨c, hcc⟩ : ∃ c, c = l.getD k 0 := ⟨_, rfl⟩
        obtain ⟨nx, HX, hxc⟩ := met_next xb hi a c l k hlt hcc hx.out
        obtain ⟨ny, HY, hyc⟩ := met_next yb lo a c l k hlt hcc hy.out
        have hsc := sum_next l k ov t c hlt hcc hs.out
        rw [← hcc] at hc hbd hq1 hq2
        clear hmem hcc hx hy hs
        rcases hxc with ⟨rfl, rfl⟩ | ⟨rfl, e1, rfl⟩ | ⟨rfl, e1, rfl⟩
        all_goals rcases hyc with ⟨rfl, rfl⟩ | ⟨rfl, e2, rfl⟩ | ⟨rfl, e2, rfl⟩
        all_goals rcases hsc with ⟨hp, HS⟩ | ⟨hp, rfl, HS⟩ | ⟨hp, rfl, hov, HS⟩ | ⟨hp, rfl, hov, HS⟩
        all_goals
          go_wp2
          go_round
          case rel => exact ⟨k + 1, _, _, _, _, by omega, by go_num, rfl, rfl, rfl, rfl, by omega, by omega, HX, HY, HS⟩
          case measure => simp [intOf]; omega
      · have hke : l.take k = l := List.take_of_length_le (by omega)
        have hxt : xb = true := by rw [hx.out, hke]; exact M1.out
        have hyt : yb = true := by rw [hy.out, hke]; exact M2.out
        subst hxt
        subst hyt
        have hs1 := hs.out
        unfold SumSo maxInt at hs1
        rw [hke] at hs1
        have HWk := Lib.hid fun W => awake_any W
        clear hx hy hs hke
        cases ov
        · have hsl : sumL l = t := by
            simp only [Bool.false_eq_true, if_false] at hs1
            unfold sumL maxInt; rw [← hs1, if_pos ht1]
          rw [hsl] at HSu
          clear hs1 hsl
          go_wp2_with fail
          refine HSu.out.mono ?_
          rintro e w1 ⟨rfl, rfl⟩
          go_wp2_with fail
          refine (HWk.out _).mono ?_
          rintro e w1 ⟨rfl, hb1⟩
          go_wp2
          go_ret
          exact ⟨rfl, hb1⟩
        · have hsl : sumL l = 9223372036854775807 := by
            rw [if_pos rfl] at hs1
            unfold sumL maxInt; rw [if_neg (by omega)]
          rw [hsl] at HSu
          clear hs1 hsl
          go_wp2_with fail
          refine HSu.out.mono ?_
          rintro e w1 ⟨rfl, rfl⟩
          go_wp2_with fail
          refine (HWk.out _).mono ?_
          rintro e w1 ⟨rfl, hb1⟩
          go_wp2
          go_ret
          exact ⟨rfl, hb1⟩
  · have hbig' : (100 : Int) < (l.length : Int) := by omega
    have HWk := Lib.hid (awake_any w)
    clear ha
    go_enter Try.func3, Try.ntmps3
    go_wp2_with fail
    refine HWk.out.mono ?_
    rintro e w1 ⟨rfl, hb1⟩
    go_wp2
    go_ret
    exact ⟨rfl, hb1⟩
end Go.Proofs.Ytcdnohgnmfaclaa
