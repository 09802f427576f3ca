/-
  WHAT IS TAKEN IS WHAT WAS LAID, AND THE OTHER WAY ROUND: numbers, texts, values.
-/
import Derived.Test.YtlggbbaigcnpjaaDoorRcTakeVal
import Derived.Test.YtlggbbaigcnpjaaDoorRcSizes
namespace Go.Proofs.YtlggbbaigcnpjaaDoor
open Go.RowKit

theorem ba_ext {a b : ByteArray} (h : a.data.toList = b.data.toList) : a = b := by
  obtain ⟨⟨x⟩⟩ := a
  obtain ⟨⟨y⟩⟩ := b
  simpa using h
theorem ba_size (a : ByteArray) : a.data.toList.length = a.size := Array.length_toList
theorem ba_cat (a b : ByteArray) : (a ++ b).data.toList = a.data.toList ++ b.data.toList := by
  rw [ByteArray.data_append, Array.toList_append]
theorem ba_extract (s : ByteArray) (i j : Nat) : (s.extract i j).data.toList = (s.data.toList.take j).drop i := by
  rw [ByteArray.data_extract, Array.toList_extract, List.extract_eq_take_drop, List.drop_take]
theorem num_list {K : Nat} {x : Int} (h1 : 1 ≤ K) (h8 : K ≤ 8) (h : fitsN K x = true) : (num K x).data.toList = be K x.toNat := by
  show (putL K [x]) = _
  rw [putL_one K x h1 h8, if_pos h]
theorem take_cat (a b : ByteArray) : (a ++ b).data.toList.take a.size = a.data.toList := by
  rw [ba_cat, ← ba_size, List.take_left]
theorem rest_cat (a b : ByteArray) : (a ++ b).extract a.size (a ++ b).size = b := by
  apply ba_ext
  rw [ba_extract, ba_cat, ← ba_size (a ++ b), ba_cat, List.take_length, ← ba_size a, List.drop_left]
theorem head_cat (a b : ByteArray) : (a ++ b).extract 0 a.size = a := by
  apply ba_ext
  rw [ba_extract, List.drop_zero, take_cat]
theorem split_at (s : ByteArray) (k : Nat) : s = s.extract 0 k ++ s.extract k s.size := by
  apply ba_ext
  rw [ba_cat, ba_extract, ba_extract, List.drop_zero, ← ba_size s, List.take_length, List.take_append_drop]

theorem numOf_enc {K : Nat} {x : Int} (h1 : 1 ≤ K) (h8 : K ≤ 8) (h : fitsN K x = true) (hx : x ≤ 9223372036854775807) (r : ByteArray) (b : Bool) : numOf (num K x ++ r) b (K : Int) = (x, r, b) := by
  obtain ⟨hp, hlt⟩ := fitsN_parts h
  have hs := num_len h1 h8 h
  have hv : beVal ((num K x ++ r).data.toList.take (K : Int).toNat) = x.toNat := by
    have := take_cat (num K x) r
    rw [hs] at this
    rw [Int.toNat_natCast, this, num_list h1 h8 h, beVal_be, Nat.mod_eq_of_lt hlt]
  have hc : 1 ≤ (K : Int) ∧ (K : Int) ≤ 8 ∧ (K : Int) ≤ ((num K x ++ r).size : Int) ∧ beVal ((num K x ++ r).data.toList.take (K : Int).toNat) ≤ 9223372036854775807 := by
    rw [hv, ByteArray.size_append, hs]
    omega
  unfold numOf takeOf
  rw [if_pos hc, hv, Int.toNat_natCast]
  have hr := rest_cat (num K x) r
  rw [hs] at hr
  simp only [hr]
  rw [Int.toNat_of_nonneg hp]
theorem be_beVal : ∀ l : List UInt8, be l.length (beVal l) = l
  | [] => rfl
  | c :: l => by
    have hlt := beVal_lt l
    have hp : 0 < 256 ^ l.length := Nat.pow_pos (by omega)
    have hc := c.toNat_lt
    rw [List.length_cons, be_succ, beVal_cons]
    congr 1
    · rw [Nat.mul_comm, Nat.mul_add_div hp, Nat.div_eq_of_lt hlt, Nat.add_zero, Nat.mod_eq_of_lt hc]
      simp
    · have := ((be_less l.length (c.toNat * 256 ^ l.length + beVal l) (beVal l)).2).2 (by rw [Nat.mul_comm, Nat.mul_add_mod])
      rw [this, be_beVal l]
theorem numOf_back {s r : ByteArray} {b : Bool} {K : Nat} {x : Int} (h : numOf s b (K : Int) = (x, r, false)) : b = false ∧ s = num K x ++ r ∧ 0 ≤ x ∧ x.toNat < 256 ^ K ∧ x ≤ 9223372036854775807 ∧ 1 ≤ K ∧ K ≤ 8 := by
  unfold numOf takeOf at h
  split at h
  · rename_i n q e
    split at e
    · rename_i hc
      simp only [Option.some.injEq, Prod.mk.injEq] at e h
      obtain ⟨e1, e2⟩ := e
      obtain ⟨h1, h2, h3⟩ := h
      subst e1 e2 h1 h2
      rw [Int.toNat_natCast] at hc ⊢
      have hl : (s.data.toList.take K).length = K := by rw [List.length_take, ba_size]; omega
      have hlt := beVal_lt (s.data.toList.take K)
      rw [hl] at hlt
      have hf : fitsN K (beVal (s.data.toList.take K) : Int) = true := by
        unfold fitsN; simp only [Bool.and_eq_true, decide_eq_true_eq, Int.toNat_natCast]; omega
      refine ⟨h3, ?_, by omega, by rw [Int.toNat_natCast]; exact hlt, by omega, by omega, by omega⟩
      have hn : num K (beVal (s.data.toList.take K) : Int) = s.extract 0 K := by
        apply ba_ext
        rw [num_list (by omega) (by omega) hf, Int.toNat_natCast, ba_extract, List.drop_zero]
        have := be_beVal (s.data.toList.take K)
        rw [hl] at this
        exact this
      rw [hn]
      exact split_at s K
    · cases e
  · simp at h
theorem textOf_enc (t r : ByteArray) (b : Bool) : textOf (t ++ r) b t.size = (t, r, b) := by
  unfold textOf
  rw [if_neg (by rw [ByteArray.size_append]; omega), head_cat, rest_cat]
theorem textOf_back {s t r : ByteArray} {b : Bool} {K : Nat} (h : textOf s b K = (t, r, false)) : b = false ∧ s = t ++ r ∧ t.size = K := by
  unfold textOf at h
  split at h
  · simp at h
  · simp only [Prod.mk.injEq] at h
    obtain ⟨h1, h2, h3⟩ := h
    subst h1 h2
    exact ⟨h3, split_at s K, by rw [ByteArray.size_extract]; omega⟩

theorem valOf_enc {h : Bool} {v : ByteArray} (hv : v.size ≤ 100) (hn : h = false → v = ⟨#[]⟩) (r : ByteArray) (b : Bool) : valOf (valS h v ++ r) b = ((h, v), r, b) := by
  cases h
  · obtain rfl := hn rfl
    have e : valS false ⟨#[]⟩ = num 1 0 := rfl
    have hq := numOf_enc (K := 1) (x := 0) (by omega) (by omega) (by decide) (by omega) r b
    unfold valOf
    rw [e]
    rw [show ((1 : Nat) : Int) = 1 from rfl] at hq
    rw [hq]
    rfl
  · have e : valS true v = num 1 ((v.size : Int) + 1) ++ v := rfl
    have hq := numOf_enc (K := 1) (x := (v.size : Int) + 1) (by omega) (by omega) (fitsN_of (by omega) (by omega)) (by omega) (v ++ r) b
    unfold valOf
    rw [e, ByteArray.append_assoc]
    rw [show ((1 : Nat) : Int) = 1 from rfl] at hq
    rw [hq, if_neg (by show ¬ ((v.size : Int) + 1 = 0); omega)]
    have ht : ((v.size : Int) + 1).toNat - 1 = v.size := by omega
    simp only [ht, textOf_enc]
theorem valOf_back {s v r : ByteArray} {b h : Bool} (hq : valOf s b = ((h, v), r, false)) : b = false ∧ s = valS h v ++ r ∧ (h = false → v = ⟨#[]⟩) ∧ v.size ≤ 254 := by
  unfold valOf at hq
  have hb := numOf_byte (s := s) (b := b)
  split at hq
  · rename_i h0
    simp only [Prod.mk.injEq] at hq
    obtain ⟨⟨e1, e2⟩, e3, e4⟩ := hq
    have hN : numOf s b ((1 : Nat) : Int) = (0, r, false) := by
      rw [show ((1 : Nat) : Int) = 1 from rfl, ← h0, ← e3, ← e4]
    obtain ⟨f1, f2, _⟩ := numOf_back hN
    subst e1 e2
    exact ⟨f1, f2, fun _ => rfl, by decide⟩
  · rename_i h0
    simp only [Prod.mk.injEq] at hq
    obtain ⟨⟨e1, e2⟩, e3⟩ := hq
    obtain ⟨t1, t2, t3⟩ := textOf_back (s := (numOf s b 1).2.1) (b := (numOf s b 1).2.2) (K := (numOf s b 1).1.toNat - 1) (t := v) (r := r) (by rw [← e2, ← e3])
    have hN : numOf s b ((1 : Nat) : Int) = ((numOf s b 1).1, (numOf s b 1).2.1, false) := by
      rw [show ((1 : Nat) : Int) = 1 from rfl, ← t1]
    obtain ⟨f1, f2, _⟩ := numOf_back hN
    subst e1
    have e : valS true v = num 1 ((v.size : Int) + 1) ++ v := rfl
    refine ⟨f1, ?_, fun h => by simp at h, by omega⟩
    rw [e, ByteArray.append_assoc, ← t2]
    have : ((v.size : Int) + 1) = (numOf s b 1).1 := by omega
    rw [this]
    exact f2
end Go.Proofs.YtlggbbaigcnpjaaDoor
