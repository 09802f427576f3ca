/-
  WHAT IS READ OF A PAGE'S BYTES IS THE PAGE.
-/
import Derived.Test.YtkemhkmabbladaaGreatDoorTpRead
namespace Go.Proofs.YtkemhkmabbladaaGreatDoor
open Go.RowKit
theorem bstr_size' (l : List UInt8) : (bstr l).size = l.length := bstr_size l
theorem bstr_data (l : List UInt8) : (bstr l).data.toList = l := by unfold bstr; simp
theorem bs_ext {a b : ByteArray} (h : a.data.toList = b.data.toList) : a = b := by
  obtain ⟨⟨x⟩⟩ := a
  obtain ⟨⟨y⟩⟩ := b
  simpa using h
theorem bs_extract (l : List UInt8) (i j : Nat) : (bstr l).extract i j = bstr ((l.take j).drop i) := by
  apply bs_ext
  rw [ByteArray.data_extract, Array.toList_extract, List.extract_eq_take_drop, List.drop_take, bstr_data, bstr_data]
theorem takeOf_be {K n : Nat} (h1 : 1 ≤ K) (h8 : K ≤ 8) (hn : n < 256 ^ K) (hx : n ≤ 9223372036854775807) (r : List UInt8) : takeOf (bstr (be K n ++ r)) (K : Int) = some (n, bstr r) := by
  have hv : beVal ((bstr (be K n ++ r)).data.toList.take (K : Int).toNat) = n := by
    have hl := be_len K n
    rw [Int.toNat_natCast, bstr_data]
    have : (be K n ++ r).take K = be K n := by
      generalize be K n = q at *
      rw [← hl, List.take_left]
    rw [this, beVal_be, Nat.mod_eq_of_lt hn]
  have hs : (bstr (be K n ++ r)).size = K + r.length := by rw [bstr_size, List.length_append, be_len]
  unfold takeOf
  rw [if_pos ⟨by omega, by omega, by rw [hs]; omega, by rw [hv]; exact hx⟩, hv, Int.toNat_natCast, bs_extract, hs]
  congr 3
  have hl := be_len K n
  rw [List.take_of_length_le (by rw [List.length_append, be_len]; exact Nat.le_refl _)]
  generalize be K n = q at *
  rw [← hl, List.drop_left]
theorem txOf_lt (s : ByteArray) (hs : s.size ≤ 255) (r : List UInt8) : txOf (bstr (ltL s ++ r)) = some (s, bstr r) := by
  have h := takeOf_be (K := 1) (n := s.size) (by omega) (by omega) (by omega) (by omega) (s.data.toList ++ r)
  unfold txOf ltL
  rw [List.append_assoc]
  rw [show ((1 : Nat) : Int) = 1 from rfl] at h
  rw [h]
  have hl : s.data.toList.length = s.size := Array.length_toList
  simp only
  rw [if_pos (by rw [bstr_size, List.length_append, hl]; omega), bs_extract, bs_extract, bstr_size]
  congr 2
  · apply bs_ext
    rw [bstr_data, List.drop_zero, ← hl, List.take_left]
  · rw [List.take_of_length_le (Nat.le_refl _), ← hl, List.drop_left]
theorem clOf_cl : ∀ (l : List (ByteArray × ByteArray)) (r : List UInt8), (∀ c ∈ l, c.1.size ≤ 255 ∧ c.2.size ≤ 255) → clOf l.length (bstr (clL l ++ r)) = some l
  | [], _, _ => rfl
  | c :: l, r, h => by
    obtain ⟨h1, h2⟩ := h c (List.mem_cons_self ..)
    have ih := clOf_cl l r (fun d hd => h d (List.mem_cons_of_mem _ hd))
    have e : clL (c :: l) ++ r = ltL c.1 ++ (ltL c.2 ++ (clL l ++ r)) := by unfold clL; rw [List.flatMap_cons]; simp
    rw [List.length_cons, clOf, e, txOf_lt c.1 h1]
    simp only
    rw [txOf_lt c.2 h2]
    simp only
    rw [ih]; rfl
theorem mem_cells {l : List (ByteArray × ByteArray)} {c : ByteArray × ByteArray} (h : c ∈ l) : ∃ k, k < l.length ∧ l.getD k noCl = c := by
  obtain ⟨k, hk, e⟩ := List.mem_iff_getElem.1 h
  exact ⟨k, hk, by rw [List.getD_eq_getElem?_getD, List.getElem?_eq_getElem hk]; exact e⟩
theorem pgBytes_list (no g : Int) (l : List (ByteArray × ByteArray)) : ∃ r, pgBytes no g l = bstr (be 1 no.toNat ++ (be 8 g.toNat ++ (be 1 l.length ++ (clL l ++ r)))) := by
  refine ⟨List.replicate (252 - (bodyL no g l).length) 0 ++ (laidStr (bodyL no g l ++ List.replicate (252 - (bodyL no g l).length) 0)).data.toList, ?_⟩
  apply bs_ext
  rw [bstr_data]
  unfold pgBytes sealStr
  generalize laidStr _ = z
  rw [ByteArray.data_append, Array.toList_append]
  unfold bodyL hdL
  simp
/-- A right page's bytes are read as the page. -/
theorem readOf_bytes {no g : Int} {l : List (ByteArray × ByteArray)} (h : pgOk no g l = true) : readOf (pgBytes no g l) = some (no.toNat, g.toNat, l) := by
  obtain ⟨h1, h2, h3, h4, h5, h6⟩ := pgOk_parts h
  obtain ⟨r, hr⟩ := pgBytes_list no g l
  have hp : pgOf (pgBytes no g l) = some (no.toNat, g.toNat, l) := by
    rw [hr]
    unfold pgOf
    have k1 := takeOf_be (K := 1) (n := no.toNat) (by omega) (by omega) (by omega) (by omega) (be 8 g.toNat ++ (be 1 l.length ++ (clL l ++ r)))
    have k2 := takeOf_be (K := 8) (n := g.toNat) (by omega) (by omega) (by omega) (by omega) (be 1 l.length ++ (clL l ++ r))
    have k3 := takeOf_be (K := 1) (n := l.length) (by omega) (by omega) (by omega) (by omega) (clL l ++ r)
    rw [show ((1 : Nat) : Int) = 1 from rfl] at k1 k3
    rw [show ((8 : Nat) : Int) = 8 from rfl] at k2
    rw [k1]
    simp only
    rw [k2]
    simp only
    rw [k3]
    simp only
    rw [clOf_cl l r (fun c hc => by
      obtain ⟨k, hk, e⟩ := mem_cells hc
      have := cell_small h6 k hk
      rw [e] at this
      omega)]
    rfl
  unfold readOf
  rw [hp]
  simp only
  rw [Int.toNat_of_nonneg h1, Int.toNat_of_nonneg h3, if_pos ⟨h, rfl⟩]
end Go.Proofs.YtkemhkmabbladaaGreatDoor
