/-
  WHAT STANDS IN A RIGHT PAGE'S BYTES, PLACE BY PLACE.
-/
import Derived.Test.YtkemhkmabbladaaGreatDoorTpBack
namespace Go.Proofs.YtkemhkmabbladaaGreatDoor
open Go.RowKit
theorem pgBytes_size {no g : Int} {l : List (ByteArray × ByteArray)} (h : pgOk no g l = true) : (pgBytes no g l).size = 256 := by
  obtain ⟨h1, h2, h3, h4, h5, h6⟩ := pgOk_parts h
  have hc := clL_len l (fun k hk => cell_small h6 k hk) l.length (Nat.le_refl _)
  rw [List.take_length] at hc
  have hh := hdL_len no g l.length
  have hb : (bodyL no g l).length ≤ 252 := by unfold bodyL; rw [List.length_append]; omega
  unfold pgBytes sealStr
  rw [ByteArray.size_append, laid_size]
  show (bstr (bodyL no g l ++ List.replicate (252 - (bodyL no g l).length) 0)).size + 4 = 256
  rw [bstr_size, List.length_append, List.length_replicate]
  omega
theorem rd_parts {s : ByteArray} {no g : Nat} {l : List (ByteArray × ByteArray)} (h : readOf s = some (no, g, l)) : pgOk no g l = true ∧ pgBytes no g l = s := by
  unfold readOf at h
  split at h
  · cases h
  · split at h
    · rename_i hc
      injection h with h
      injection h with h1 h2
      injection h2 with h2 h3
      subst h1 h2 h3
      exact hc
    · cases h
theorem bs_at {s : ByteArray} {A B : List UInt8} {c : UInt8} (hs : s.data.toList = A ++ c :: B) {i : Nat} (hi : A.length = i) (h : i < s.size) : s[i]'h = c := by
  have e : s.data.toList[i]? = some c := by
    rw [hs, List.getElem?_append_right (by omega), hi, Nat.sub_self]; rfl
  have h2 : s.data.toList[i]? = some (s.data[i]'h) := by
    rw [Array.getElem?_toList]; exact Array.getElem?_eq_getElem h
  rw [h2] at e
  injection e
theorem bs_cut {s x : ByteArray} {A B : List UInt8} (hs : s.data.toList = A ++ (x.data.toList ++ B)) {i j : Nat} (hi : A.length = i) (hj : j = i + x.size) : s.extract i j = x := by
  have hl : x.data.toList.length = x.size := Array.length_toList
  apply bs_ext
  rw [ByteArray.data_extract, Array.toList_extract, List.extract_eq_take_drop, hs, ← hi, List.drop_left, hj, ← hi, Nat.add_sub_cancel_left, ← hl, List.take_left]
theorem be_one (n : Nat) (h : n ≤ 255) : ∃ c : UInt8, be 1 n = [c] ∧ c.toNat = n := by
  refine ⟨UInt8.ofNat n, ?_, ?_⟩
  · unfold be
    simp
    rw [Nat.mod_eq_of_lt (by omega)]
  · rw [UInt8.toNat_ofNat', Nat.mod_eq_of_lt (by omega)]
/-- The head of a right page's bytes. -/
theorem rd_head {s : ByteArray} {no g : Nat} {l : List (ByteArray × ByteArray)} (h : readOf s = some (no, g, l)) :
    s.size = 256 ∧ (∀ h0 : 0 < s.size, (s[0]'h0).toNat = no) ∧ (∀ h9 : 9 < s.size, (s[9]'h9).toNat = l.length) ∧ (∃ r, takeOf (s.extract 1 s.size) 8 = some (g, r)) ∧ l.length ≤ 8 ∧ pgOk no g l = true ∧ pgBytes no g l = s := by
  obtain ⟨hk, hb⟩ := rd_parts h
  have hz := pgBytes_size hk
  rw [hb] at hz
  obtain ⟨h1, h2, h3, h4, h5, h6⟩ := pgOk_parts hk
  obtain ⟨r, hr⟩ := pgBytes_list no g l
  rw [hb, Int.toNat_natCast, Int.toNat_natCast] at hr
  obtain ⟨c0, e0, t0⟩ := be_one no (by omega)
  obtain ⟨c9, e9, t9⟩ := be_one l.length (by omega)
  have h8 := be_len 8 g
  have hd : s.data.toList = c0 :: (be 8 g ++ c9 :: (clL l ++ r)) := by
    rw [hr, bstr_data, e0, e9]; rfl
  refine ⟨hz, fun h0 => ?_, fun h9 => ?_, ?_, h5, hk, hb⟩
  · rw [bs_at (A := []) (i := 0) hd rfl h0]; exact t0
  · rw [bs_at (A := c0 :: be 8 g) (B := clL l ++ r) (c := c9) (by rw [hd]; rfl) (by rw [List.length_cons, h8]) h9]; exact t9
  · have he : s.extract 1 s.size = bstr (be 8 g ++ c9 :: (clL l ++ r)) := by
      apply bs_ext
      rw [ByteArray.data_extract, Array.toList_extract, List.extract_eq_take_drop, bstr_data, hd]
      show ((be 8 g ++ c9 :: (clL l ++ r)).take (s.size - 1)) = _
      rw [List.take_of_length_le]
      have : s.data.toList.length = s.size := Array.length_toList
      rw [hd, List.length_cons] at this
      omega
    rw [he]
    exact ⟨_, takeOf_be (K := 8) (by omega) (by omega) (by omega) (by omega) _⟩
theorem clL_split (l : List (ByteArray × ByteArray)) (k : Nat) (h : k < l.length) : clL l = clL (l.take k) ++ (ltL (l.getD k noCl).1 ++ ltL (l.getD k noCl).2) ++ clL (l.drop (k + 1)) := by
  rw [← clL_succ l k h]
  unfold clL
  rw [← List.flatMap_append, List.take_append_drop]
/-- A cell in a right page's bytes. -/
theorem rd_cell {s : ByteArray} {no g : Nat} {l : List (ByteArray × ByteArray)} (h : readOf s = some (no, g, l)) {k p : Nat} (hk : k < l.length) (hp : p = 10 + (clL (l.take k)).length) :
    (∀ h0 : p < s.size, (s[p]'h0).toNat = (l.getD k noCl).1.size) ∧ (∀ h0 : p + 1 + (l.getD k noCl).1.size < s.size, (s[p + 1 + (l.getD k noCl).1.size]'h0).toNat = (l.getD k noCl).2.size) ∧
    s.extract (p + 1) (p + 1 + (l.getD k noCl).1.size) = (l.getD k noCl).1 ∧ s.extract (p + 2 + (l.getD k noCl).1.size) (p + 2 + (l.getD k noCl).1.size + (l.getD k noCl).2.size) = (l.getD k noCl).2 ∧
    (l.getD k noCl).1.size ≤ 8 ∧ (l.getD k noCl).2.size ≤ 16 ∧ p + 2 + (l.getD k noCl).1.size + (l.getD k noCl).2.size = 10 + (clL (l.take (k + 1))).length := by
  obtain ⟨hkk, hb⟩ := rd_parts h
  obtain ⟨h1, h2, h3, h4, h5, h6⟩ := pgOk_parts hkk
  obtain ⟨s8, s16⟩ := cell_small h6 k hk
  have hsuc := clL_succ l k hk
  have hspl := clL_split l k hk
  obtain ⟨r, hr⟩ := pgBytes_list no g l
  rw [hb, Int.toNat_natCast, Int.toNat_natCast] at hr
  generalize (l.getD k noCl).1 = x at *
  generalize (l.getD k noCl).2 = y at *
  obtain ⟨c1, e1, t1⟩ := be_one x.size (by omega)
  obtain ⟨c2, e2, t2⟩ := be_one y.size (by omega)
  have hx : x.data.toList.length = x.size := Array.length_toList
  have hy : y.data.toList.length = y.size := Array.length_toList
  have z1 := be_len 1 no
  have z8 := be_len 8 g
  have zc := be_len 1 l.length
  have hd : s.data.toList = (be 1 no ++ be 8 g ++ be 1 l.length ++ clL (l.take k)) ++ c1 :: (x.data.toList ++ c2 :: (y.data.toList ++ (clL (l.drop (k + 1)) ++ r))) := by
    rw [hr, bstr_data, hspl]
    unfold ltL
    rw [e1, e2]
    simp only [List.append_assoc, List.cons_append, List.nil_append]
  have hA : (be 1 no ++ be 8 g ++ be 1 l.length ++ clL (l.take k)).length = p := by
    simp only [List.length_append]; omega
  generalize (be 1 no ++ be 8 g ++ be 1 l.length ++ clL (l.take k)) = A at hd hA
  generalize clL (l.drop (k + 1)) ++ r = R at hd
  refine ⟨fun h0 => ?_, fun h0 => ?_, ?_, ?_, s8, s16, ?_⟩
  · rw [bs_at hd hA h0]; exact t1
  · rw [bs_at (A := A ++ c1 :: x.data.toList) (c := c2) (B := y.data.toList ++ R) (by rw [hd]; simp) (by simp only [List.length_append, List.length_cons]; omega) h0]; exact t2
  · exact bs_cut (A := A ++ [c1]) (B := c2 :: (y.data.toList ++ R)) (by rw [hd]; simp) (by simp only [List.length_append, List.length_cons, List.length_nil]; omega) rfl
  · exact bs_cut (A := A ++ c1 :: (x.data.toList ++ [c2])) (B := R) (by rw [hd]; simp) (by simp only [List.length_append, List.length_cons, List.length_nil]; omega) rfl
  · rw [hsuc]
    simp only [List.length_append, ltL_len]
    omega
/-- What the reference's walk knows of the page that is to come. -/
def RdIs (s : ByteArray) (k p : Nat) (l' : List (ByteArray × ByteArray)) : Prop := ∀ no g l, readOf s = some (no, g, l) → k ≤ l.length ∧ l' = l.take k ∧ p = 10 + (clL (l.take k)).length
theorem rdIs_zero (s : ByteArray) : RdIs s 0 10 [] := fun no g l _ => ⟨Nat.zero_le _, by simp, by simp [clL]⟩
theorem rdIs_key {s : ByteArray} {k p : Nat} {l' : List (ByteArray × ByteArray)} (h : RdIs s k p l') (h9 : 9 < s.size) (hk : k < (s[9]'h9).toNat) (hp : p < s.size) (hbad : 8 < (s[p]'hp).toNat) : readOf s = none := by
  cases hr : readOf s with
  | none => rfl
  | some q =>
    obtain ⟨no, g, l⟩ := q
    obtain ⟨h1, _, h3⟩ := h _ _ _ hr
    have hl := (rd_head hr).2.2.1 h9
    obtain ⟨g1, _, _, _, g5, _⟩ := rd_cell hr (k := k) (by omega) h3
    have := g1 hp
    omega
theorem rdIs_val {s : ByteArray} {k p n : Nat} {l' : List (ByteArray × ByteArray)} (h : RdIs s k p l') (h9 : 9 < s.size) (hk : k < (s[9]'h9).toNat) (hp : p < s.size) (hn : (s[p]'hp).toNat = n) (hq : p + 1 + n < s.size) (hbad : 16 < (s[p + 1 + n]'hq).toNat) : readOf s = none := by
  cases hr : readOf s with
  | none => rfl
  | some q =>
    obtain ⟨no, g, l⟩ := q
    obtain ⟨h1, _, h3⟩ := h _ _ _ hr
    have hl := (rd_head hr).2.2.1 h9
    obtain ⟨g1, g2, _, _, g5, g6, _⟩ := rd_cell hr (k := k) (by omega) h3
    have := g1 hp
    rw [hn] at this
    subst this
    have := g2 hq
    omega
theorem rdIs_next {s : ByteArray} {k p n m : Nat} {l' : List (ByteArray × ByteArray)} (h : RdIs s k p l') (h9 : 9 < s.size) (hk : k < (s[9]'h9).toNat) (hp : p < s.size) (hn : (s[p]'hp).toNat = n) (hq : p + 1 + n < s.size) (hm : (s[p + 1 + n]'hq).toNat = m) :
    RdIs s (k + 1) (p + 2 + n + m) (l' ++ [(s.extract (p + 1) (p + 1 + n), s.extract (p + 2 + n) (p + 2 + n + m))]) := by
  intro no g l hr
  obtain ⟨h1, h2, h3⟩ := h _ _ _ hr
  have hl := (rd_head hr).2.2.1 h9
  have hk2 : k < l.length := by omega
  obtain ⟨g1, g2, g3, g4, _, _, g7⟩ := rd_cell hr hk2 h3
  have e1 := g1 hp
  rw [hn] at e1
  subst e1
  have e2 := g2 hq
  rw [hm] at e2
  subst e2
  refine ⟨hk2, ?_, g7⟩
  rw [g3, g4, h2, List.take_succ_eq_append_getElem hk2, List.getD_eq_getElem?_getD, List.getElem?_eq_getElem hk2]
  rfl
theorem rdIs_end {s : ByteArray} {k p : Nat} {l' : List (ByteArray × ByteArray)} {no0 g0 : Nat} (h : RdIs s k p l') (h9 : 9 < s.size) (hk : (s[9]'h9).toNat ≤ k ∨ 8 ≤ k) (h0 : 0 < s.size) (hno : (s[0]'h0).toNat = no0) (hg : ∃ r, takeOf (s.extract 1 s.size) 8 = some (g0, r)) :
    readOf s = if pgOk no0 g0 l' = true ∧ pgBytes no0 g0 l' = s then some (no0, g0, l') else none := by
  cases hr : readOf s with
  | none =>
    rw [if_neg]
    rintro ⟨q1, q2⟩
    have := readOf_bytes q1
    rw [q2, hr] at this
    cases this
  | some q =>
    obtain ⟨no, g, l⟩ := q
    obtain ⟨h1, h2, h3⟩ := h _ _ _ hr
    obtain ⟨r1, r2, r3, ⟨r, r4⟩, r5, r6, r7⟩ := rd_head hr
    have hl := r3 h9
    have hkl : k = l.length := by omega
    subst hkl
    rw [List.take_length] at h2
    subst h2
    have e0 := r2 h0
    obtain ⟨r', hg⟩ := hg
    rw [r4] at hg
    injection hg with hg
    injection hg with hg _
    subst hg
    rw [hno] at e0
    subst e0
    rw [if_pos ⟨r6, r7⟩]
theorem rdIs_notake {s : ByteArray} (h : takeOf (s.extract 1 s.size) 8 = none) : readOf s = none := by
  cases hr : readOf s with
  | none => rfl
  | some q =>
    obtain ⟨no, g, l⟩ := q
    obtain ⟨_, _, _, ⟨r, r4⟩, _⟩ := rd_head hr
    rw [h] at r4; cases r4
theorem rdIs_size {s : ByteArray} (h : s.size ≠ 256) : readOf s = none := by
  cases hr : readOf s with
  | none => rfl
  | some q =>
    obtain ⟨no, g, l⟩ := q
    exact absurd (rd_head hr).1 h
end Go.Proofs.YtkemhkmabbladaaGreatDoor
