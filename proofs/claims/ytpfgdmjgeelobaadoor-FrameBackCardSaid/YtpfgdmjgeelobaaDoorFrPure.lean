/-
  FRAMES AS BYTES: what is laid, what is read. No program in sight.
-/
import Derived.Test.YtpfgdmjgeelobaaDoorNTake
import Derived.Test.YtpfgdmjgeelobaaDoorSumSealed
namespace Go.Proofs.YtpfgdmjgeelobaaDoor
open Go.RowKit

theorem be_beVal : ∀ (l : List UInt8), be l.length (beVal l) = l
  | [] => by simp [be]
  | c :: l => by
    rw [List.length_cons, be_succ, beVal_cons]
    have hlt := beVal_lt l
    have hp : 0 < 256 ^ l.length := Nat.pow_pos (by omega)
    have h1 : (c.toNat * 256 ^ l.length + beVal l) / 256 ^ l.length = c.toNat := by
      rw [Nat.mul_comm, Nat.mul_add_div hp, Nat.div_eq_of_lt hlt]; omega
    have h2 : be l.length (c.toNat * 256 ^ l.length + beVal l) = be l.length (beVal l) := ((be_less _ _ _).2).2 (by rw [Nat.mul_comm, Nat.mul_add_mod])
    rw [h1, Nat.mod_eq_of_lt c.toNat_lt, h2, be_beVal l]
    simp
theorem be_beVal' (k : Nat) (l : List UInt8) (h : l.length = k) : be k (beVal l) = l := by subst h; exact be_beVal l

/-- A frame's bytes ahead of its sum; may a frame be; its bytes. -/
def frBody (e a g : Int) (d : ByteArray) : List UInt8 := be 1 d.size ++ (be 4 e.toNat ++ (be 8 a.toNat ++ (be 8 g.toNat ++ d.data.toList)))
def frRight (e a g : Int) (n : Nat) : Bool := decide (0 ≤ e) && decide (e ≤ 2147483647) && (decide (0 ≤ a) && decide (a ≤ 4611686018427387903)) && (decide (0 ≤ g) && decide (g ≤ 4611686018427387903)) && decide (n ≤ 200)
def frStr (e a g : Int) (d : ByteArray) : ByteArray := sealStr (frBody e a g d)
theorem frRight_parts {e a g : Int} {n : Nat} (h : frRight e a g n = true) : (0 ≤ e ∧ e ≤ 2147483647) ∧ (0 ≤ a ∧ a ≤ 4611686018427387903) ∧ (0 ≤ g ∧ g ≤ 4611686018427387903) ∧ n ≤ 200 := by
  unfold frRight at h
  simp only [Bool.and_eq_true, decide_eq_true_eq] at h
  exact ⟨h.1.1.1, h.1.1.2, h.1.2, h.2⟩
theorem frRight_of {e a g : Int} {n : Nat} (h : (0 ≤ e ∧ e ≤ 2147483647) ∧ (0 ≤ a ∧ a ≤ 4611686018427387903) ∧ (0 ≤ g ∧ g ≤ 4611686018427387903) ∧ n ≤ 200) : frRight e a g n = true := by
  unfold frRight
  simp only [Bool.and_eq_true, decide_eq_true_eq]
  exact ⟨⟨⟨h.1, h.2.1⟩, h.2.2.1⟩, h.2.2.2⟩
theorem frBody_len (e a g : Int) (d : ByteArray) : (frBody e a g d).length = 21 + d.size := by
  have : d.data.toList.length = d.size := Array.length_toList
  simp only [frBody, List.length_append, be_len, this]; omega
theorem frStr_size (e a g : Int) (d : ByteArray) : (frStr e a g d).size = 25 + d.size := by
  unfold frStr; rw [seal_size, frBody_len]; omega

/-! ### reading -/
def frN (s : ByteArray) : Nat := beVal (s.data.toList.take 1)
def frE (s : ByteArray) : Nat := beVal ((s.data.toList.drop 1).take 4)
def frA (s : ByteArray) : Nat := beVal ((s.data.toList.drop 5).take 8)
def frG (s : ByteArray) : Nat := beVal ((s.data.toList.drop 13).take 8)
def frD (s : ByteArray) : ByteArray := s.extract 21 (21 + frN s)
def frOk (s : ByteArray) : Bool := decide (25 ≤ s.size) && decide (25 + frN s ≤ s.size) && isSealed (s.extract 0 (25 + frN s)) && frRight (frE s) (frA s) (frG s) (frN s)
theorem frN_lt (s : ByteArray) : frN s < 256 := by
  have h := beVal_lt (s.data.toList.take 1)
  have h2 : (s.data.toList.take 1).length ≤ 1 := by rw [List.length_take]; omega
  have h3 : 256 ^ (s.data.toList.take 1).length ≤ 256 ^ 1 := Nat.pow_le_pow_right (by omega) h2
  unfold frN; omega
theorem frE_lt (s : ByteArray) : frE s < 4294967296 := by
  have h := beVal_lt ((s.data.toList.drop 1).take 4)
  have h2 : ((s.data.toList.drop 1).take 4).length ≤ 4 := by rw [List.length_take]; omega
  have h3 : 256 ^ ((s.data.toList.drop 1).take 4).length ≤ 256 ^ 4 := Nat.pow_le_pow_right (by omega) h2
  unfold frE; omega
theorem extract_list (s : ByteArray) (a b : Nat) : (s.extract a b).data.toList = (s.data.toList.drop a).take (b - a) := by
  rw [ByteArray.data_extract, Array.toList_extract]
theorem take_join (L : List UInt8) (a i j : Nat) : (L.drop a).take i ++ (L.drop (a + i)).take j = (L.drop a).take (i + j) := by
  rw [List.take_add (i := i), List.drop_drop]
theorem list_len (s : ByteArray) : s.data.toList.length = s.size := Array.length_toList
theorem frD_size (s : ByteArray) (h : 21 + frN s ≤ s.size) : (frD s).size = frN s := by
  unfold frD; rw [ByteArray.size_extract]; omega
/-- The bytes ahead of the sum are those that are laid of what is read. -/
theorem body_read (s : ByteArray) (h : 21 + frN s ≤ s.size) : frBody (frE s) (frA s) (frG s) (frD s) = s.data.toList.take (21 + frN s) := by
  have hl := list_len s
  unfold frBody
  rw [Int.toNat_natCast, Int.toNat_natCast, Int.toNat_natCast, frD_size s h]
  have e1 : be 1 (frN s) = s.data.toList.take 1 := be_beVal' 1 _ (by rw [List.length_take]; omega)
  have e2 : be 4 (frE s) = (s.data.toList.drop 1).take 4 := be_beVal' 4 _ (by rw [List.length_take, List.length_drop]; omega)
  have e3 : be 8 (frA s) = (s.data.toList.drop 5).take 8 := be_beVal' 8 _ (by rw [List.length_take, List.length_drop]; omega)
  have e4 : be 8 (frG s) = (s.data.toList.drop 13).take 8 := be_beVal' 8 _ (by rw [List.length_take, List.length_drop]; omega)
  have e5 : (frD s).data.toList = (s.data.toList.drop 21).take (frN s) := by unfold frD; rw [extract_list]; congr 1; omega
  rw [e1, e2, e3, e4, e5]
  generalize s.data.toList = L
  have s4 := take_join L 13 8 (frN s)
  have s3 := take_join L 5 8 (8 + frN s)
  have s2 := take_join L 1 4 (8 + (8 + frN s))
  have s1 := take_join L 0 1 (4 + (8 + (8 + frN s)))
  rw [List.drop_zero] at s1
  rw [s4, s3, s2, s1]
  rw [show 21 + frN s = 1 + (4 + (8 + (8 + frN s))) from by omega]

/-- What is read is laid just so again, if and only if it is sealed. -/
theorem make_read (s : ByteArray) (h : 25 + frN s ≤ s.size) : ((frStr (frE s) (frA s) (frG s) (frD s)).toList == (s.extract 0 (25 + frN s)).toList) = isSealed (s.extract 0 (25 + frN s)) := by
  have hb := body_read s (by omega)
  have hl := list_len s
  have hsz : (s.extract 0 (25 + frN s)).size = 25 + frN s := by rw [ByteArray.size_extract]; omega
  have ht : (s.extract 0 (25 + frN s)).data.toList.take ((s.extract 0 (25 + frN s)).size - 4) = s.data.toList.take (21 + frN s) := by
    rw [hsz, extract_list, List.drop_zero, List.take_take]; congr 1; omega
  unfold isSealed
  rw [ht, hsz]
  have hx : ((s.extract 0 (25 + frN s)).extract (25 + frN s - 4) (25 + frN s)).data.toList = (s.data.toList.drop (21 + frN s)).take 4 := by
    rw [extract_list, extract_list, List.drop_zero, List.drop_take, List.take_take]
    rw [show 25 + frN s - 4 = 21 + frN s from by omega, show min (25 + frN s - (21 + frN s)) (25 + frN s - 0 - (21 + frN s)) = 4 from by omega]
  have hw : (s.extract 0 (25 + frN s)).data.toList = s.data.toList.take (21 + frN s) ++ (s.data.toList.drop (21 + frN s)).take 4 := by
    rw [extract_list, List.drop_zero, show 25 + frN s - 0 = 21 + frN s + 4 from by omega, List.take_add]
  have hm : (frStr (frE s) (frA s) (frG s) (frD s)).data.toList = s.data.toList.take (21 + frN s) ++ (laidStr (s.data.toList.take (21 + frN s))).data.toList := by
    unfold frStr sealStr
    rw [hb, ByteArray.data_append, Array.toList_append]
  rw [ByteArray.toList_eq, ByteArray.toList_eq, ByteArray.toList_eq, ByteArray.toList_eq, hm, hw, hx]
  rw [Bool.eq_iff_iff]
  simp only [beq_iff_eq, Bool.and_eq_true, decide_eq_true_eq, List.append_cancel_left_eq]
  exact ⟨fun h => ⟨by omega, h⟩, fun h => h.2⟩

/-- What was made is opened, whatever stands behind. -/
theorem made_parts (e a g : Int) (d t : ByteArray) (hr : frRight e a g d.size = true) :
    frN (frStr e a g d ++ t) = d.size ∧ (frE (frStr e a g d ++ t) : Int) = e ∧ (frA (frStr e a g d ++ t) : Int) = a ∧ (frG (frStr e a g d ++ t) : Int) = g ∧ frD (frStr e a g d ++ t) = d ∧
      (frStr e a g d ++ t).extract 0 (25 + d.size) = frStr e a g d ∧ frOk (frStr e a g d ++ t) = true := by
  obtain ⟨he, ha, hg, hn⟩ := frRight_parts hr
  have hL : (frStr e a g d ++ t).data.toList = be 1 d.size ++ (be 4 e.toNat ++ (be 8 a.toNat ++ (be 8 g.toNat ++ (d.data.toList ++ ((laidStr (frBody e a g d)).data.toList ++ t.data.toList))))) := by
    rw [ByteArray.data_append, Array.toList_append]
    unfold frStr sealStr
    rw [ByteArray.data_append, Array.toList_append]
    show (frBody e a g d ++ _) ++ _ = _
    unfold frBody
    simp only [List.append_assoc]
  have hsz : (frStr e a g d ++ t).size = 25 + d.size + t.size := by rw [ByteArray.size_append, frStr_size]
  generalize hZ : d.data.toList ++ ((laidStr (frBody e a g d)).data.toList ++ t.data.toList) = Z at hL
  have h1 : frN (frStr e a g d ++ t) = d.size := by
    unfold frN
    rw [hL, List.take_left' (be_len 1 _), beVal_be, Nat.mod_eq_of_lt (by omega)]
  have h2 : (frE (frStr e a g d ++ t) : Int) = e := by
    unfold frE
    rw [hL, List.drop_left' (be_len 1 _), List.take_left' (be_len 4 _), beVal_be, Nat.mod_eq_of_lt (by omega)]
    omega
  have h3 : (frA (frStr e a g d ++ t) : Int) = a := by
    unfold frA
    rw [hL, show 5 = 1 + 4 from rfl, ← List.drop_drop, List.drop_left' (be_len 1 _), List.drop_left' (be_len 4 _), List.take_left' (be_len 8 _), beVal_be, Nat.mod_eq_of_lt (by omega)]
    omega
  have h4 : (frG (frStr e a g d ++ t) : Int) = g := by
    unfold frG
    rw [hL, show 13 = 1 + (4 + 8) from rfl, ← List.drop_drop, ← List.drop_drop, List.drop_left' (be_len 1 _), List.drop_left' (be_len 4 _), List.drop_left' (be_len 8 _), List.take_left' (be_len 8 _), beVal_be, Nat.mod_eq_of_lt (by omega)]
    omega
  have h5 : frD (frStr e a g d ++ t) = d := by
    have hq : (frD (frStr e a g d ++ t)).data.toList = d.data.toList := by
      unfold frD
      rw [extract_list, h1, hL, show 21 = 1 + (4 + (8 + 8)) from rfl, ← List.drop_drop, ← List.drop_drop, ← List.drop_drop, List.drop_left' (be_len 1 _), List.drop_left' (be_len 4 _), List.drop_left' (be_len 8 _), List.drop_left' (be_len 8 _), ← hZ,
        show 1 + (4 + (8 + 8)) + d.size - (1 + (4 + (8 + 8))) = d.size from by omega, List.take_left' (list_len d)]
    exact ByteArray.ext (Array.toList_inj.1 hq)
  have h6 : (frStr e a g d ++ t).extract 0 (25 + d.size) = frStr e a g d := by
    apply ByteArray.ext
    apply Array.toList_inj.1
    rw [extract_list, ByteArray.data_append, Array.toList_append, List.drop_zero, List.take_left' (by rw [list_len, frStr_size]; omega)]
  refine ⟨h1, h2, h3, h4, h5, h6, ?_⟩
  have hse : isSealed (frStr e a g d) = true := by
    have h := openRes_seal (frBody e a g d)
    unfold openRes at h
    by_cases hs : isSealed (sealStr (frBody e a g d)) = true
    · exact hs
    · rw [if_neg hs] at h; cases h
  unfold frOk
  rw [h1, h2, h3, h4, h6, hsz, hse, hr]
  simp; omega
end Go.Proofs.YtpfgdmjgeelobaaDoor
