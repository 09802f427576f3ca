/-
  THE CONTRACT OF quadrigaref04.Decode, of any bytes.
-/
import Derived.Test.YtlggbbaigcnpjaaDoorRcRdPure
import Derived.Test.YtlggbbaigcnpjaaDoorRcRdP
import Derived.Test.YtlggbbaigcnpjaaDoorRcRd2
import Derived.Test.YtlggbbaigcnpjaaDoorRcRd3
namespace Go.Proofs.YtlggbbaigcnpjaaDoor
open Go.RowKit

def rdAns (gsn : Int) (s : ByteArray) : Value := if (rd gsn s).ok = true ∧ (rd gsn s).enc = s then .tuple #[(rd gsn s).v, .bool true] else .tuple #[.agg #[.int .i64 0, .int .i64 0, .int .i64 0, .int .i64 0, .int .i64 0, .string ⟨#[]⟩, .bool false, .string ⟨#[]⟩, .bool false, .string ⟨#[]⟩, .int .i64 0], .bool false]
theorem rdAns_case {gsn : Int} {s : ByteArray} {r : Rc} (e : rd gsn s = r) (w : World) (hw : r.ok = false → Calls Tryd.prog 9 #[.int .i64 gsn, .string s] w fun e w' => e = .returned (.tuple #[.agg #[.int .i64 0, .int .i64 0, .int .i64 0, .int .i64 0, .int .i64 0, .string ⟨#[]⟩, .bool false, .string ⟨#[]⟩, .bool false, .string ⟨#[]⟩, .int .i64 0], .bool false]) ∧ Below w.heap.size w w')
    (ho : r.ok = true → ¬ r.enc = s → Calls Tryd.prog 9 #[.int .i64 gsn, .string s] w fun e w' => e = .returned (.tuple #[.agg #[.int .i64 0, .int .i64 0, .int .i64 0, .int .i64 0, .int .i64 0, .string ⟨#[]⟩, .bool false, .string ⟨#[]⟩, .bool false, .string ⟨#[]⟩, .int .i64 0], .bool false]) ∧ Below w.heap.size w w') (hy : r.ok = true → r.enc = s → Calls Tryd.prog 9 #[.int .i64 gsn, .string s] w fun e w' => e = .returned (.tuple #[r.v, .bool true]) ∧ Below w.heap.size w w') :
    Calls Tryd.prog 9 #[.int .i64 gsn, .string s] w fun e w' => e = .returned (rdAns gsn s) ∧ Below w.heap.size w w' := by
  unfold rdAns
  rw [e]
  cases h : r.ok
  · rw [if_neg (fun x => by cases x.1)]
    exact hw h
  · by_cases h' : r.enc = s
    · rw [if_pos ⟨rfl, h'⟩]
      exact hy h h'
    · rw [if_neg (fun x => h' x.2)]
      exact ho h h'
theorem atOf_le (s : ByteArray) (i : Nat) : atOf s i ≤ 255 := by
  unfold atOf
  have := (s.data.toList.getD i 0).toNat_lt
  omega
theorem wrap64_small {x : Int} (h : 0 ≤ x) (h' : x ≤ 100000) : wrap64 x = x := by unfold wrap64; omega
theorem rd_places (s : ByteArray) : rdI1 s ≤ 270 ∧ rdI2 s ≤ 525 ∧ rdI3 s ≤ 780 := by
  have h1 := atOf_le s 14
  have h2 := atOf_le s (rdI1 s)
  have h3 := atOf_le s (rdI2 s)
  have e1 : rdI1 s = 15 + atOf s 14 := rfl
  have e2 : rdI2 s = rdI1 s + max (atOf s (rdI1 s)) 1 := rfl
  have e3 : rdI3 s = rdI2 s + max (atOf s (rdI2 s)) 1 := rfl
  omega
theorem rd_q2 (s : ByteArray) : wrap64 (15 + (atOf s 14 : Int)) = (rdI1 s : Int) := by
  have h1 := atOf_le s 14
  have e1 : rdI1 s = 15 + atOf s 14 := rfl
  rw [wrap64_small (by omega) (by omega)]; omega
theorem step_t {I a J : Nat} (e : J = I + max a 1) (h : 0 < a) (hI : I ≤ 1000) (ha : a ≤ 255) : wrap64 ((I : Int) + (a : Int)) = (J : Int) := by
  rw [wrap64_small (by omega) (by omega)]; omega
theorem step_f {I a J : Nat} (e : J = I + max a 1) (h : ¬ 0 < a) (hI : I ≤ 1000) : wrap64 ((I : Int) + 1) = (J : Int) := by
  rw [wrap64_small (by omega) (by omega)]; omega
theorem max_t {a : Nat} (h : 0 < a) : max (a : Int) 1 = (a : Int) := by omega
theorem max_f {a : Nat} (h : ¬ 0 < a) : max (a : Int) 1 = 1 := by omega
theorem pos_t {a : Nat} (h : 0 < a) : (0 : Int) < (a : Int) := by omega
theorem pos_f {a : Nat} (h : ¬ 0 < a) : (a : Int) ≤ 0 := by omega
theorem next_t {I : Nat} (hI : I ≤ 1000) : wrap64 ((I : Int) + 1) = ((I + 1 : Nat) : Int) := by
  rw [wrap64_small (by omega) (by omega)]; omega
theorem less_t {a : Nat} (h : 0 < a) (ha : a ≤ 255) : wrap64 ((a : Int) - 1) = ((a - 1 : Nat) : Int) := by
  rw [wrap64_small (by omega) (by omega)]; omega

theorem refDecode_2tt_rd (gsn : Int) (s : ByteArray) (w : World) (hs : s.size ≤ 1000) (h0 : atOf s 0 = 2) (hv1 : 0 < atOf s (rdI1 s)) (hv2 : 0 < atOf s (rdI2 s)) :
    Calls Tryd.prog 9 #[.int .i64 gsn, .string s] w fun e w' => e = .returned (rdAns gsn s) ∧ Below w.heap.size w w' := by
  have h00 : (atOf s 0 : Int) = 2 := by rw [h0]; rfl
  obtain ⟨l1, l2, l3⟩ := rd_places s
  have m0 := atOf_le s 14
  have m1 := atOf_le s (rdI1 s)
  have m2 := atOf_le s (rdI2 s)
  have e : rd gsn s = ⟨2, gsn, rtOf (cutOf s 1 4) 4, rtOf (cutOf s 5 8) 8, atOf s 13, cutOf s 15 (atOf s 14), true, (cutOf s (rdI1 s + 1) (atOf s (rdI1 s) - 1)), true, (cutOf s (rdI2 s + 1) (atOf s (rdI2 s) - 1)), 0⟩ := by
    unfold rd rdHas rdTxt
    rw [h0, if_pos (by decide), if_pos hv1, if_pos hv2, if_neg (by decide)]
    rw [decide_eq_true hv1, decide_eq_true hv2]
    rfl
  exact rdAns_case e w (fun h => refDecode_2tt_wrong gsn (rtOf (cutOf s 1 4) 4) (rtOf (cutOf s 5 8) 8) (atOf s 13) s (cutOf s 15 (atOf s 14)) (cutOf s (rdI1 s + 1) (atOf s (rdI1 s) - 1)) (cutOf s (rdI2 s + 1) (atOf s (rdI2 s) - 1)) (atOf s 14) (atOf s (rdI1 s)) (atOf s (rdI2 s)) (rdI1 s) (rdI2 s) (rdI3 s) (rdI1 s + 1) (atOf s (rdI1 s) - 1) (rdI2 s + 1) (atOf s (rdI2 s) - 1) w hs h00 rfl rfl rfl rfl rfl (by omega) rfl rfl (by omega) (by omega) (by omega) (rd_q2 s) (step_t rfl hv1 (by omega) m1) (step_t rfl hv2 (by omega) m2) (max_t hv1) (max_t hv2) (pos_t hv1) (next_t (by omega)) (less_t hv1 m1) (by omega) (by omega) rfl (pos_t hv2) (next_t (by omega)) (less_t hv2 m2) (by omega) (by omega) rfl h) (fun h h' => refDecode_2tt_other gsn (rtOf (cutOf s 1 4) 4) (rtOf (cutOf s 5 8) 8) (atOf s 13) s (cutOf s 15 (atOf s 14)) (cutOf s (rdI1 s + 1) (atOf s (rdI1 s) - 1)) (cutOf s (rdI2 s + 1) (atOf s (rdI2 s) - 1)) (atOf s 14) (atOf s (rdI1 s)) (atOf s (rdI2 s)) (rdI1 s) (rdI2 s) (rdI3 s) (rdI1 s + 1) (atOf s (rdI1 s) - 1) (rdI2 s + 1) (atOf s (rdI2 s) - 1) w hs h00 rfl rfl rfl rfl rfl (by omega) rfl rfl (by omega) (by omega) (by omega) (rd_q2 s) (step_t rfl hv1 (by omega) m1) (step_t rfl hv2 (by omega) m2) (max_t hv1) (max_t hv2) (pos_t hv1) (next_t (by omega)) (less_t hv1 m1) (by omega) (by omega) rfl (pos_t hv2) (next_t (by omega)) (less_t hv2 m2) (by omega) (by omega) rfl h h') (fun h h' => refDecode_2tt_yes gsn (rtOf (cutOf s 1 4) 4) (rtOf (cutOf s 5 8) 8) (atOf s 13) s (cutOf s 15 (atOf s 14)) (cutOf s (rdI1 s + 1) (atOf s (rdI1 s) - 1)) (cutOf s (rdI2 s + 1) (atOf s (rdI2 s) - 1)) (atOf s 14) (atOf s (rdI1 s)) (atOf s (rdI2 s)) (rdI1 s) (rdI2 s) (rdI3 s) (rdI1 s + 1) (atOf s (rdI1 s) - 1) (rdI2 s + 1) (atOf s (rdI2 s) - 1) w hs h00 rfl rfl rfl rfl rfl (by omega) rfl rfl (by omega) (by omega) (by omega) (rd_q2 s) (step_t rfl hv1 (by omega) m1) (step_t rfl hv2 (by omega) m2) (max_t hv1) (max_t hv2) (pos_t hv1) (next_t (by omega)) (less_t hv1 m1) (by omega) (by omega) rfl (pos_t hv2) (next_t (by omega)) (less_t hv2 m2) (by omega) (by omega) rfl h h')
theorem refDecode_2tf_rd (gsn : Int) (s : ByteArray) (w : World) (hs : s.size ≤ 1000) (h0 : atOf s 0 = 2) (hv1 : 0 < atOf s (rdI1 s)) (hv2 : ¬ 0 < atOf s (rdI2 s)) :
    Calls Tryd.prog 9 #[.int .i64 gsn, .string s] w fun e w' => e = .returned (rdAns gsn s) ∧ Below w.heap.size w w' := by
  have h00 : (atOf s 0 : Int) = 2 := by rw [h0]; rfl
  obtain ⟨l1, l2, l3⟩ := rd_places s
  have m0 := atOf_le s 14
  have m1 := atOf_le s (rdI1 s)
  have m2 := atOf_le s (rdI2 s)
  have e : rd gsn s = ⟨2, gsn, rtOf (cutOf s 1 4) 4, rtOf (cutOf s 5 8) 8, atOf s 13, cutOf s 15 (atOf s 14), true, (cutOf s (rdI1 s + 1) (atOf s (rdI1 s) - 1)), false, ⟨#[]⟩, 0⟩ := by
    unfold rd rdHas rdTxt
    rw [h0, if_pos (by decide), if_pos hv1, if_neg hv2, if_neg (by decide)]
    rw [decide_eq_true hv1, decide_eq_false hv2]
    rfl
  exact rdAns_case e w (fun h => refDecode_2tf_wrong gsn (rtOf (cutOf s 1 4) 4) (rtOf (cutOf s 5 8) 8) (atOf s 13) s (cutOf s 15 (atOf s 14)) (cutOf s (rdI1 s + 1) (atOf s (rdI1 s) - 1)) (atOf s 14) (atOf s (rdI1 s)) (atOf s (rdI2 s)) (rdI1 s) (rdI2 s) (rdI3 s) (rdI1 s + 1) (atOf s (rdI1 s) - 1) w hs h00 rfl rfl rfl rfl rfl (by omega) rfl rfl (by omega) (by omega) (by omega) (rd_q2 s) (step_t rfl hv1 (by omega) m1) (step_f rfl hv2 (by omega)) (max_t hv1) (max_f hv2) (pos_t hv1) (next_t (by omega)) (less_t hv1 m1) (by omega) (by omega) rfl (pos_f hv2) h) (fun h h' => refDecode_2tf_other gsn (rtOf (cutOf s 1 4) 4) (rtOf (cutOf s 5 8) 8) (atOf s 13) s (cutOf s 15 (atOf s 14)) (cutOf s (rdI1 s + 1) (atOf s (rdI1 s) - 1)) (atOf s 14) (atOf s (rdI1 s)) (atOf s (rdI2 s)) (rdI1 s) (rdI2 s) (rdI3 s) (rdI1 s + 1) (atOf s (rdI1 s) - 1) w hs h00 rfl rfl rfl rfl rfl (by omega) rfl rfl (by omega) (by omega) (by omega) (rd_q2 s) (step_t rfl hv1 (by omega) m1) (step_f rfl hv2 (by omega)) (max_t hv1) (max_f hv2) (pos_t hv1) (next_t (by omega)) (less_t hv1 m1) (by omega) (by omega) rfl (pos_f hv2) h h') (fun h h' => refDecode_2tf_yes gsn (rtOf (cutOf s 1 4) 4) (rtOf (cutOf s 5 8) 8) (atOf s 13) s (cutOf s 15 (atOf s 14)) (cutOf s (rdI1 s + 1) (atOf s (rdI1 s) - 1)) (atOf s 14) (atOf s (rdI1 s)) (atOf s (rdI2 s)) (rdI1 s) (rdI2 s) (rdI3 s) (rdI1 s + 1) (atOf s (rdI1 s) - 1) w hs h00 rfl rfl rfl rfl rfl (by omega) rfl rfl (by omega) (by omega) (by omega) (rd_q2 s) (step_t rfl hv1 (by omega) m1) (step_f rfl hv2 (by omega)) (max_t hv1) (max_f hv2) (pos_t hv1) (next_t (by omega)) (less_t hv1 m1) (by omega) (by omega) rfl (pos_f hv2) h h')
theorem refDecode_2ft_rd (gsn : Int) (s : ByteArray) (w : World) (hs : s.size ≤ 1000) (h0 : atOf s 0 = 2) (hv1 : ¬ 0 < atOf s (rdI1 s)) (hv2 : 0 < atOf s (rdI2 s)) :
    Calls Tryd.prog 9 #[.int .i64 gsn, .string s] w fun e w' => e = .returned (rdAns gsn s) ∧ Below w.heap.size w w' := by
  have h00 : (atOf s 0 : Int) = 2 := by rw [h0]; rfl
  obtain ⟨l1, l2, l3⟩ := rd_places s
  have m0 := atOf_le s 14
  have m1 := atOf_le s (rdI1 s)
  have m2 := atOf_le s (rdI2 s)
  have e : rd gsn s = ⟨2, gsn, rtOf (cutOf s 1 4) 4, rtOf (cutOf s 5 8) 8, atOf s 13, cutOf s 15 (atOf s 14), false, ⟨#[]⟩, true, (cutOf s (rdI2 s + 1) (atOf s (rdI2 s) - 1)), 0⟩ := by
    unfold rd rdHas rdTxt
    rw [h0, if_pos (by decide), if_neg hv1, if_pos hv2, if_neg (by decide)]
    rw [decide_eq_false hv1, decide_eq_true hv2]
    rfl
  exact rdAns_case e w (fun h => refDecode_2ft_wrong gsn (rtOf (cutOf s 1 4) 4) (rtOf (cutOf s 5 8) 8) (atOf s 13) s (cutOf s 15 (atOf s 14)) (cutOf s (rdI2 s + 1) (atOf s (rdI2 s) - 1)) (atOf s 14) (atOf s (rdI1 s)) (atOf s (rdI2 s)) (rdI1 s) (rdI2 s) (rdI3 s) (rdI2 s + 1) (atOf s (rdI2 s) - 1) w hs h00 rfl rfl rfl rfl rfl (by omega) rfl rfl (by omega) (by omega) (by omega) (rd_q2 s) (step_f rfl hv1 (by omega)) (step_t rfl hv2 (by omega) m2) (max_f hv1) (max_t hv2) (pos_f hv1) (pos_t hv2) (next_t (by omega)) (less_t hv2 m2) (by omega) (by omega) rfl h) (fun h h' => refDecode_2ft_other gsn (rtOf (cutOf s 1 4) 4) (rtOf (cutOf s 5 8) 8) (atOf s 13) s (cutOf s 15 (atOf s 14)) (cutOf s (rdI2 s + 1) (atOf s (rdI2 s) - 1)) (atOf s 14) (atOf s (rdI1 s)) (atOf s (rdI2 s)) (rdI1 s) (rdI2 s) (rdI3 s) (rdI2 s + 1) (atOf s (rdI2 s) - 1) w hs h00 rfl rfl rfl rfl rfl (by omega) rfl rfl (by omega) (by omega) (by omega) (rd_q2 s) (step_f rfl hv1 (by omega)) (step_t rfl hv2 (by omega) m2) (max_f hv1) (max_t hv2) (pos_f hv1) (pos_t hv2) (next_t (by omega)) (less_t hv2 m2) (by omega) (by omega) rfl h h') (fun h h' => refDecode_2ft_yes gsn (rtOf (cutOf s 1 4) 4) (rtOf (cutOf s 5 8) 8) (atOf s 13) s (cutOf s 15 (atOf s 14)) (cutOf s (rdI2 s + 1) (atOf s (rdI2 s) - 1)) (atOf s 14) (atOf s (rdI1 s)) (atOf s (rdI2 s)) (rdI1 s) (rdI2 s) (rdI3 s) (rdI2 s + 1) (atOf s (rdI2 s) - 1) w hs h00 rfl rfl rfl rfl rfl (by omega) rfl rfl (by omega) (by omega) (by omega) (rd_q2 s) (step_f rfl hv1 (by omega)) (step_t rfl hv2 (by omega) m2) (max_f hv1) (max_t hv2) (pos_f hv1) (pos_t hv2) (next_t (by omega)) (less_t hv2 m2) (by omega) (by omega) rfl h h')
theorem refDecode_2ff_rd (gsn : Int) (s : ByteArray) (w : World) (hs : s.size ≤ 1000) (h0 : atOf s 0 = 2) (hv1 : ¬ 0 < atOf s (rdI1 s)) (hv2 : ¬ 0 < atOf s (rdI2 s)) :
    Calls Tryd.prog 9 #[.int .i64 gsn, .string s] w fun e w' => e = .returned (rdAns gsn s) ∧ Below w.heap.size w w' := by
  have h00 : (atOf s 0 : Int) = 2 := by rw [h0]; rfl
  obtain ⟨l1, l2, l3⟩ := rd_places s
  have m0 := atOf_le s 14
  have m1 := atOf_le s (rdI1 s)
  have m2 := atOf_le s (rdI2 s)
  have e : rd gsn s = ⟨2, gsn, rtOf (cutOf s 1 4) 4, rtOf (cutOf s 5 8) 8, atOf s 13, cutOf s 15 (atOf s 14), false, ⟨#[]⟩, false, ⟨#[]⟩, 0⟩ := by
    unfold rd rdHas rdTxt
    rw [h0, if_pos (by decide), if_neg hv1, if_neg hv2, if_neg (by decide)]
    rw [decide_eq_false hv1, decide_eq_false hv2]
    rfl
  exact rdAns_case e w (fun h => refDecode_2ff_wrong gsn (rtOf (cutOf s 1 4) 4) (rtOf (cutOf s 5 8) 8) (atOf s 13) s (cutOf s 15 (atOf s 14)) (atOf s 14) (atOf s (rdI1 s)) (atOf s (rdI2 s)) (rdI1 s) (rdI2 s) (rdI3 s) w hs h00 rfl rfl rfl rfl rfl (by omega) rfl rfl (by omega) (by omega) (by omega) (rd_q2 s) (step_f rfl hv1 (by omega)) (step_f rfl hv2 (by omega)) (max_f hv1) (max_f hv2) (pos_f hv1) (pos_f hv2) h) (fun h h' => refDecode_2ff_other gsn (rtOf (cutOf s 1 4) 4) (rtOf (cutOf s 5 8) 8) (atOf s 13) s (cutOf s 15 (atOf s 14)) (atOf s 14) (atOf s (rdI1 s)) (atOf s (rdI2 s)) (rdI1 s) (rdI2 s) (rdI3 s) w hs h00 rfl rfl rfl rfl rfl (by omega) rfl rfl (by omega) (by omega) (by omega) (rd_q2 s) (step_f rfl hv1 (by omega)) (step_f rfl hv2 (by omega)) (max_f hv1) (max_f hv2) (pos_f hv1) (pos_f hv2) h h') (fun h h' => refDecode_2ff_yes gsn (rtOf (cutOf s 1 4) 4) (rtOf (cutOf s 5 8) 8) (atOf s 13) s (cutOf s 15 (atOf s 14)) (atOf s 14) (atOf s (rdI1 s)) (atOf s (rdI2 s)) (rdI1 s) (rdI2 s) (rdI3 s) w hs h00 rfl rfl rfl rfl rfl (by omega) rfl rfl (by omega) (by omega) (by omega) (rd_q2 s) (step_f rfl hv1 (by omega)) (step_f rfl hv2 (by omega)) (max_f hv1) (max_f hv2) (pos_f hv1) (pos_f hv2) h h')
theorem refDecode_3tt_rd (gsn : Int) (s : ByteArray) (w : World) (hs : s.size ≤ 1000) (h0 : atOf s 0 = 3) (hv1 : 0 < atOf s (rdI1 s)) (hv2 : 0 < atOf s (rdI2 s)) :
    Calls Tryd.prog 9 #[.int .i64 gsn, .string s] w fun e w' => e = .returned (rdAns gsn s) ∧ Below w.heap.size w w' := by
  have h00 : (atOf s 0 : Int) = 3 := by rw [h0]; rfl
  obtain ⟨l1, l2, l3⟩ := rd_places s
  have m0 := atOf_le s 14
  have m1 := atOf_le s (rdI1 s)
  have m2 := atOf_le s (rdI2 s)
  have e : rd gsn s = ⟨3, gsn, rtOf (cutOf s 1 4) 4, rtOf (cutOf s 5 8) 8, atOf s 13, cutOf s 15 (atOf s 14), true, (cutOf s (rdI1 s + 1) (atOf s (rdI1 s) - 1)), true, (cutOf s (rdI2 s + 1) (atOf s (rdI2 s) - 1)), (rtOf (cutOf s (rdI3 s) 8) 8 : Int)⟩ := by
    unfold rd rdHas rdTxt
    rw [h0, if_pos (by decide), if_pos hv1, if_pos hv2, if_pos rfl]
    rw [decide_eq_true hv1, decide_eq_true hv2]
    rfl
  exact rdAns_case e w (fun h => refDecode_3tt_wrong gsn (rtOf (cutOf s 1 4) 4) (rtOf (cutOf s 5 8) 8) (atOf s 13) (rtOf (cutOf s (rdI3 s) 8) 8 : Int) s (cutOf s 15 (atOf s 14)) (cutOf s (rdI1 s + 1) (atOf s (rdI1 s) - 1)) (cutOf s (rdI2 s + 1) (atOf s (rdI2 s) - 1)) (atOf s 14) (atOf s (rdI1 s)) (atOf s (rdI2 s)) (rdI1 s) (rdI2 s) (rdI3 s) (rdI1 s + 1) (atOf s (rdI1 s) - 1) (rdI2 s + 1) (atOf s (rdI2 s) - 1) w hs h00 rfl rfl rfl rfl rfl (by omega) rfl rfl (by omega) (by omega) (by omega) (rd_q2 s) (step_t rfl hv1 (by omega) m1) (step_t rfl hv2 (by omega) m2) (max_t hv1) (max_t hv2) (pos_t hv1) (next_t (by omega)) (less_t hv1 m1) (by omega) (by omega) rfl (pos_t hv2) (next_t (by omega)) (less_t hv2 m2) (by omega) (by omega) rfl rfl h) (fun h h' => refDecode_3tt_other gsn (rtOf (cutOf s 1 4) 4) (rtOf (cutOf s 5 8) 8) (atOf s 13) (rtOf (cutOf s (rdI3 s) 8) 8 : Int) s (cutOf s 15 (atOf s 14)) (cutOf s (rdI1 s + 1) (atOf s (rdI1 s) - 1)) (cutOf s (rdI2 s + 1) (atOf s (rdI2 s) - 1)) (atOf s 14) (atOf s (rdI1 s)) (atOf s (rdI2 s)) (rdI1 s) (rdI2 s) (rdI3 s) (rdI1 s + 1) (atOf s (rdI1 s) - 1) (rdI2 s + 1) (atOf s (rdI2 s) - 1) w hs h00 rfl rfl rfl rfl rfl (by omega) rfl rfl (by omega) (by omega) (by omega) (rd_q2 s) (step_t rfl hv1 (by omega) m1) (step_t rfl hv2 (by omega) m2) (max_t hv1) (max_t hv2) (pos_t hv1) (next_t (by omega)) (less_t hv1 m1) (by omega) (by omega) rfl (pos_t hv2) (next_t (by omega)) (less_t hv2 m2) (by omega) (by omega) rfl rfl h h') (fun h h' => refDecode_3tt_yes gsn (rtOf (cutOf s 1 4) 4) (rtOf (cutOf s 5 8) 8) (atOf s 13) (rtOf (cutOf s (rdI3 s) 8) 8 : Int) s (cutOf s 15 (atOf s 14)) (cutOf s (rdI1 s + 1) (atOf s (rdI1 s) - 1)) (cutOf s (rdI2 s + 1) (atOf s (rdI2 s) - 1)) (atOf s 14) (atOf s (rdI1 s)) (atOf s (rdI2 s)) (rdI1 s) (rdI2 s) (rdI3 s) (rdI1 s + 1) (atOf s (rdI1 s) - 1) (rdI2 s + 1) (atOf s (rdI2 s) - 1) w hs h00 rfl rfl rfl rfl rfl (by omega) rfl rfl (by omega) (by omega) (by omega) (rd_q2 s) (step_t rfl hv1 (by omega) m1) (step_t rfl hv2 (by omega) m2) (max_t hv1) (max_t hv2) (pos_t hv1) (next_t (by omega)) (less_t hv1 m1) (by omega) (by omega) rfl (pos_t hv2) (next_t (by omega)) (less_t hv2 m2) (by omega) (by omega) rfl rfl h h')
theorem refDecode_3tf_rd (gsn : Int) (s : ByteArray) (w : World) (hs : s.size ≤ 1000) (h0 : atOf s 0 = 3) (hv1 : 0 < atOf s (rdI1 s)) (hv2 : ¬ 0 < atOf s (rdI2 s)) :
    Calls Tryd.prog 9 #[.int .i64 gsn, .string s] w fun e w' => e = .returned (rdAns gsn s) ∧ Below w.heap.size w w' := by
  have h00 : (atOf s 0 : Int) = 3 := by rw [h0]; rfl
  obtain ⟨l1, l2, l3⟩ := rd_places s
  have m0 := atOf_le s 14
  have m1 := atOf_le s (rdI1 s)
  have m2 := atOf_le s (rdI2 s)
  have e : rd gsn s = ⟨3, gsn, rtOf (cutOf s 1 4) 4, rtOf (cutOf s 5 8) 8, atOf s 13, cutOf s 15 (atOf s 14), true, (cutOf s (rdI1 s + 1) (atOf s (rdI1 s) - 1)), false, ⟨#[]⟩, (rtOf (cutOf s (rdI3 s) 8) 8 : Int)⟩ := by
    unfold rd rdHas rdTxt
    rw [h0, if_pos (by decide), if_pos hv1, if_neg hv2, if_pos rfl]
    rw [decide_eq_true hv1, decide_eq_false hv2]
    rfl
  exact rdAns_case e w (fun h => refDecode_3tf_wrong gsn (rtOf (cutOf s 1 4) 4) (rtOf (cutOf s 5 8) 8) (atOf s 13) (rtOf (cutOf s (rdI3 s) 8) 8 : Int) s (cutOf s 15 (atOf s 14)) (cutOf s (rdI1 s + 1) (atOf s (rdI1 s) - 1)) (atOf s 14) (atOf s (rdI1 s)) (atOf s (rdI2 s)) (rdI1 s) (rdI2 s) (rdI3 s) (rdI1 s + 1) (atOf s (rdI1 s) - 1) w hs h00 rfl rfl rfl rfl rfl (by omega) rfl rfl (by omega) (by omega) (by omega) (rd_q2 s) (step_t rfl hv1 (by omega) m1) (step_f rfl hv2 (by omega)) (max_t hv1) (max_f hv2) (pos_t hv1) (next_t (by omega)) (less_t hv1 m1) (by omega) (by omega) rfl (pos_f hv2) rfl h) (fun h h' => refDecode_3tf_other gsn (rtOf (cutOf s 1 4) 4) (rtOf (cutOf s 5 8) 8) (atOf s 13) (rtOf (cutOf s (rdI3 s) 8) 8 : Int) s (cutOf s 15 (atOf s 14)) (cutOf s (rdI1 s + 1) (atOf s (rdI1 s) - 1)) (atOf s 14) (atOf s (rdI1 s)) (atOf s (rdI2 s)) (rdI1 s) (rdI2 s) (rdI3 s) (rdI1 s + 1) (atOf s (rdI1 s) - 1) w hs h00 rfl rfl rfl rfl rfl (by omega) rfl rfl (by omega) (by omega) (by omega) (rd_q2 s) (step_t rfl hv1 (by omega) m1) (step_f rfl hv2 (by omega)) (max_t hv1) (max_f hv2) (pos_t hv1) (next_t (by omega)) (less_t hv1 m1) (by omega) (by omega) rfl (pos_f hv2) rfl h h') (fun h h' => refDecode_3tf_yes gsn (rtOf (cutOf s 1 4) 4) (rtOf (cutOf s 5 8) 8) (atOf s 13) (rtOf (cutOf s (rdI3 s) 8) 8 : Int) s (cutOf s 15 (atOf s 14)) (cutOf s (rdI1 s + 1) (atOf s (rdI1 s) - 1)) (atOf s 14) (atOf s (rdI1 s)) (atOf s (rdI2 s)) (rdI1 s) (rdI2 s) (rdI3 s) (rdI1 s + 1) (atOf s (rdI1 s) - 1) w hs h00 rfl rfl rfl rfl rfl (by omega) rfl rfl (by omega) (by omega) (by omega) (rd_q2 s) (step_t rfl hv1 (by omega) m1) (step_f rfl hv2 (by omega)) (max_t hv1) (max_f hv2) (pos_t hv1) (next_t (by omega)) (less_t hv1 m1) (by omega) (by omega) rfl (pos_f hv2) rfl h h')
theorem refDecode_3ft_rd (gsn : Int) (s : ByteArray) (w : World) (hs : s.size ≤ 1000) (h0 : atOf s 0 = 3) (hv1 : ¬ 0 < atOf s (rdI1 s)) (hv2 : 0 < atOf s (rdI2 s)) :
    Calls Tryd.prog 9 #[.int .i64 gsn, .string s] w fun e w' => e = .returned (rdAns gsn s) ∧ Below w.heap.size w w' := by
  have h00 : (atOf s 0 : Int) = 3 := by rw [h0]; rfl
  obtain ⟨l1, l2, l3⟩ := rd_places s
  have m0 := atOf_le s 14
  have m1 := atOf_le s (rdI1 s)
  have m2 := atOf_le s (rdI2 s)
  have e : rd gsn s = ⟨3, gsn, rtOf (cutOf s 1 4) 4, rtOf (cutOf s 5 8) 8, atOf s 13, cutOf s 15 (atOf s 14), false, ⟨#[]⟩, true, (cutOf s (rdI2 s + 1) (atOf s (rdI2 s) - 1)), (rtOf (cutOf s (rdI3 s) 8) 8 : Int)⟩ := by
    unfold rd rdHas rdTxt
    rw [h0, if_pos (by decide), if_neg hv1, if_pos hv2, if_pos rfl]
    rw [decide_eq_false hv1, decide_eq_true hv2]
    rfl
  exact rdAns_case e w (fun h => refDecode_3ft_wrong gsn (rtOf (cutOf s 1 4) 4) (rtOf (cutOf s 5 8) 8) (atOf s 13) (rtOf (cutOf s (rdI3 s) 8) 8 : Int) s (cutOf s 15 (atOf s 14)) (cutOf s (rdI2 s + 1) (atOf s (rdI2 s) - 1)) (atOf s 14) (atOf s (rdI1 s)) (atOf s (rdI2 s)) (rdI1 s) (rdI2 s) (rdI3 s) (rdI2 s + 1) (atOf s (rdI2 s) - 1) w hs h00 rfl rfl rfl rfl rfl (by omega) rfl rfl (by omega) (by omega) (by omega) (rd_q2 s) (step_f rfl hv1 (by omega)) (step_t rfl hv2 (by omega) m2) (max_f hv1) (max_t hv2) (pos_f hv1) (pos_t hv2) (next_t (by omega)) (less_t hv2 m2) (by omega) (by omega) rfl rfl h) (fun h h' => refDecode_3ft_other gsn (rtOf (cutOf s 1 4) 4) (rtOf (cutOf s 5 8) 8) (atOf s 13) (rtOf (cutOf s (rdI3 s) 8) 8 : Int) s (cutOf s 15 (atOf s 14)) (cutOf s (rdI2 s + 1) (atOf s (rdI2 s) - 1)) (atOf s 14) (atOf s (rdI1 s)) (atOf s (rdI2 s)) (rdI1 s) (rdI2 s) (rdI3 s) (rdI2 s + 1) (atOf s (rdI2 s) - 1) w hs h00 rfl rfl rfl rfl rfl (by omega) rfl rfl (by omega) (by omega) (by omega) (rd_q2 s) (step_f rfl hv1 (by omega)) (step_t rfl hv2 (by omega) m2) (max_f hv1) (max_t hv2) (pos_f hv1) (pos_t hv2) (next_t (by omega)) (less_t hv2 m2) (by omega) (by omega) rfl rfl h h') (fun h h' => refDecode_3ft_yes gsn (rtOf (cutOf s 1 4) 4) (rtOf (cutOf s 5 8) 8) (atOf s 13) (rtOf (cutOf s (rdI3 s) 8) 8 : Int) s (cutOf s 15 (atOf s 14)) (cutOf s (rdI2 s + 1) (atOf s (rdI2 s) - 1)) (atOf s 14) (atOf s (rdI1 s)) (atOf s (rdI2 s)) (rdI1 s) (rdI2 s) (rdI3 s) (rdI2 s + 1) (atOf s (rdI2 s) - 1) w hs h00 rfl rfl rfl rfl rfl (by omega) rfl rfl (by omega) (by omega) (by omega) (rd_q2 s) (step_f rfl hv1 (by omega)) (step_t rfl hv2 (by omega) m2) (max_f hv1) (max_t hv2) (pos_f hv1) (pos_t hv2) (next_t (by omega)) (less_t hv2 m2) (by omega) (by omega) rfl rfl h h')
theorem refDecode_3ff_rd (gsn : Int) (s : ByteArray) (w : World) (hs : s.size ≤ 1000) (h0 : atOf s 0 = 3) (hv1 : ¬ 0 < atOf s (rdI1 s)) (hv2 : ¬ 0 < atOf s (rdI2 s)) :
    Calls Tryd.prog 9 #[.int .i64 gsn, .string s] w fun e w' => e = .returned (rdAns gsn s) ∧ Below w.heap.size w w' := by
  have h00 : (atOf s 0 : Int) = 3 := by rw [h0]; rfl
  obtain ⟨l1, l2, l3⟩ := rd_places s
  have m0 := atOf_le s 14
  have m1 := atOf_le s (rdI1 s)
  have m2 := atOf_le s (rdI2 s)
  have e : rd gsn s = ⟨3, gsn, rtOf (cutOf s 1 4) 4, rtOf (cutOf s 5 8) 8, atOf s 13, cutOf s 15 (atOf s 14), false, ⟨#[]⟩, false, ⟨#[]⟩, (rtOf (cutOf s (rdI3 s) 8) 8 : Int)⟩ := by
    unfold rd rdHas rdTxt
    rw [h0, if_pos (by decide), if_neg hv1, if_neg hv2, if_pos rfl]
    rw [decide_eq_false hv1, decide_eq_false hv2]
    rfl
  exact rdAns_case e w (fun h => refDecode_3ff_wrong gsn (rtOf (cutOf s 1 4) 4) (rtOf (cutOf s 5 8) 8) (atOf s 13) (rtOf (cutOf s (rdI3 s) 8) 8 : Int) s (cutOf s 15 (atOf s 14)) (atOf s 14) (atOf s (rdI1 s)) (atOf s (rdI2 s)) (rdI1 s) (rdI2 s) (rdI3 s) w hs h00 rfl rfl rfl rfl rfl (by omega) rfl rfl (by omega) (by omega) (by omega) (rd_q2 s) (step_f rfl hv1 (by omega)) (step_f rfl hv2 (by omega)) (max_f hv1) (max_f hv2) (pos_f hv1) (pos_f hv2) rfl h) (fun h h' => refDecode_3ff_other gsn (rtOf (cutOf s 1 4) 4) (rtOf (cutOf s 5 8) 8) (atOf s 13) (rtOf (cutOf s (rdI3 s) 8) 8 : Int) s (cutOf s 15 (atOf s 14)) (atOf s 14) (atOf s (rdI1 s)) (atOf s (rdI2 s)) (rdI1 s) (rdI2 s) (rdI3 s) w hs h00 rfl rfl rfl rfl rfl (by omega) rfl rfl (by omega) (by omega) (by omega) (rd_q2 s) (step_f rfl hv1 (by omega)) (step_f rfl hv2 (by omega)) (max_f hv1) (max_f hv2) (pos_f hv1) (pos_f hv2) rfl h h') (fun h h' => refDecode_3ff_yes gsn (rtOf (cutOf s 1 4) 4) (rtOf (cutOf s 5 8) 8) (atOf s 13) (rtOf (cutOf s (rdI3 s) 8) 8 : Int) s (cutOf s 15 (atOf s 14)) (atOf s 14) (atOf s (rdI1 s)) (atOf s (rdI2 s)) (rdI1 s) (rdI2 s) (rdI3 s) w hs h00 rfl rfl rfl rfl rfl (by omega) rfl rfl (by omega) (by omega) (by omega) (rd_q2 s) (step_f rfl hv1 (by omega)) (step_f rfl hv2 (by omega)) (max_f hv1) (max_f hv2) (pos_f hv1) (pos_f hv2) rfl h h')
theorem refDecode_any (gsn : Int) (s : ByteArray) (w : World) (hs : s.size ≤ 1000) : Calls Tryd.prog 9 #[.int .i64 gsn, .string s] w fun e w' => e = .returned (rdAns gsn s) ∧ Below w.heap.size w w' := by
  by_cases e2 : atOf s 0 = 2
  · by_cases v1 : 0 < atOf s (rdI1 s) <;> by_cases v2 : 0 < atOf s (rdI2 s)
    · exact refDecode_2tt_rd gsn s w hs e2 v1 v2
    · exact refDecode_2tf_rd gsn s w hs e2 v1 v2
    · exact refDecode_2ft_rd gsn s w hs e2 v1 v2
    · exact refDecode_2ff_rd gsn s w hs e2 v1 v2
  by_cases e3 : atOf s 0 = 3
  · by_cases v1 : 0 < atOf s (rdI1 s) <;> by_cases v2 : 0 < atOf s (rdI2 s)
    · exact refDecode_3tt_rd gsn s w hs e3 v1 v2
    · exact refDecode_3tf_rd gsn s w hs e3 v1 v2
    · exact refDecode_3ft_rd gsn s w hs e3 v1 v2
    · exact refDecode_3ff_rd gsn s w hs e3 v1 v2
  by_cases e4 : atOf s 0 = 4
  · have h00 : (atOf s 0 : Int) = 4 := by rw [e4]; rfl
    have e : rd gsn s = ⟨4, gsn, rtOf (cutOf s 1 4) 4, rtOf (cutOf s 5 8) 8, 0, ⟨#[]⟩, false, ⟨#[]⟩, false, ⟨#[]⟩, atOf s 13⟩ := by
      unfold rd
      rw [e4, if_neg (by decide), if_pos rfl]
      rfl
    exact rdAns_case e w (fun h => refDecode_p4_wrong gsn _ _ _ s w hs h00 rfl rfl rfl h) (fun h h' => refDecode_p4_other gsn _ _ _ s w hs h00 rfl rfl rfl h h') (fun h h' => refDecode_p4_yes gsn _ _ _ s w hs h00 rfl rfl rfl h h')
  · have e : rd gsn s = ⟨atOf s 0, gsn, rtOf (cutOf s 1 4) 4, rtOf (cutOf s 5 8) 8, 0, ⟨#[]⟩, false, ⟨#[]⟩, false, ⟨#[]⟩, 0⟩ := by
      unfold rd
      rw [if_neg (by omega), if_neg e4]
    have n2 : ¬ (atOf s 0 : Int) = 2 := by omega
    have n3 : ¬ (atOf s 0 : Int) = 3 := by omega
    have n4 : ¬ (atOf s 0 : Int) = 4 := by omega
    exact rdAns_case e w (fun h => refDecode_po_wrong gsn _ _ _ s w hs rfl rfl rfl n2 n3 n4 h) (fun h h' => refDecode_po_other gsn _ _ _ s w hs rfl rfl rfl n2 n3 n4 h h') (fun h h' => refDecode_po_yes gsn _ _ _ s w hs rfl rfl rfl n2 n3 n4 h h')
end Go.Proofs.YtlggbbaigcnpjaaDoor
