/-
  THE CONTRACT OF quadrigaref04.number: a number's decimal digits.
-/
import Derived.Test.YtlggbbaigcnpjaaDoorRpRefHex
import Derived.Lib.ItoaNum
namespace Go.Proofs.YtlggbbaigcnpjaaDoor
open Go.RowKit

theorem conv1 (W : World) (g : Nat) (c : UInt8) (h : W.cell? ⟨g, 0, none⟩ = some (.int .u8 (c.toNat : Int))) :
    (convert 53 9 (.slice (some ⟨g, 0, none⟩) 1 1)).run Tryd.prog W = .ok (.string ⟨#[c]⟩) W :=
  run_convert_bytes_back W 53 9 5 ⟨g, 0, none⟩ 1 [c] Tryd.underlying53 Tryd.underlying5 Tryd.underlying9 fun j hj => by
    have : j = 0 := by simp at hj; omega
    subst this
    exact h
/-- The digits that are still to come. -/
def digs (m : Nat) : List UInt8 := if m = 0 then [] else Lib.decDigits m
theorem digs_step {m : Nat} (h : 0 < m) : digs m = digs (m / 10) ++ [UInt8.ofNat (48 + m % 10)] := by
  unfold digs
  rw [if_neg (by omega)]
  by_cases h10 : m < 10
  · rw [if_pos (by omega), Lib.decDigits_one h10, Nat.mod_eq_of_lt h10]; rfl
  · rw [if_neg (by omega)]
    conv => lhs; rw [Lib.decDigits, dif_neg h10]
theorem digs_len : ∀ k m : Nat, m < 10 ^ k → (digs m).length ≤ k
  | 0, m, h => by
    have : m = 0 := by simpa using h
    subst this
    exact Nat.le_refl _
  | k + 1, m, h => by
    by_cases h0 : m = 0
    · subst h0; exact Nat.zero_le _
    · rw [digs_step (by omega), List.length_append]
      rw [Nat.pow_succ] at h
      have := digs_len k (m / 10) (by omega)
      simp; omega
theorem dec_len (m : Nat) (h : m < 10000000000000000000) : (Lib.decDigits m).length ≤ 19 := by
  by_cases h0 : m = 0
  · subst h0; rw [Lib.decDigits_one (by omega)]; decide
  · have := digs_len 19 m (by omega)
    unfold digs at this
    rw [if_neg h0] at this
    exact this
/-- A text of digits. -/
def txt (l : List UInt8) : ByteArray := ⟨l.toArray⟩
theorem txt_cat (a b : List UInt8) : txt a ++ txt b = txt (a ++ b) := by
  obtain ⟨x, hx⟩ : ∃ x, x = txt a ++ txt b := ⟨_, rfl⟩
  unfold txt at *
  rw [← hx]
  have : x.data.toList = a ++ b := by rw [hx, ByteArray.data_append, Array.toList_append]
  obtain ⟨⟨y⟩⟩ := x
  simpa using this
theorem txt_size (a : List UInt8) : (txt a).size = a.length := by
  show a.toArray.size = _
  simp

set_option maxRecDepth 100000 in
set_option maxHeartbeats 1000000 in
theorem number_zero (w : World) :
    Calls Tryd.prog 34 #[.int .i64 0] w fun e w' => e = .returned (.string (txt (Lib.decDigits 0))) ∧ Below w.heap.size w w' := by
  have HD : Hid (txt (Lib.decDigits 0) = ⟨#[48]⟩) := by rw [Hid, Lib.decDigits_one (by omega)]; rfl
  have kc : (convert 53 9 (.slice (some ⟨w.heap.size, 0, none⟩) 1 1)).run Tryd.prog (w.alloc (.cells #[.int .u8 48] 5)) = .ok (.string ⟨#[48]⟩) (w.alloc (.cells #[.int .u8 48] 5)) := conv1 _ _ 48 (new_cell rfl rfl)
  have hE : (⟨#[48]⟩ : ByteArray) ++ ⟨#[]⟩ = ⟨#[48]⟩ := by decide +kernel
  have hC : (⟨#[48]⟩ : ByteArray).toList ≠ [] := by rw [ByteArray.toList_eq]; decide
  have hz : ¬ 9223372036854775807 < (⟨#[48]⟩ : ByteArray).size + (⟨#[]⟩ : ByteArray).size := by decide
  generalize (⟨#[48]⟩ : ByteArray) = C at HD kc hE hC hz
  have hC2 : C.toList.isEmpty = false := by rw [List.isEmpty_eq_false_iff]; exact hC
  go_enter Tryd.func34, Tryd.ntmps34
  go_wp2
  refine wp_loop_rounds 2 ?_
  rw [rounds_succ]
  go_wp2
  rw [rounds_succ]
  go_wp2
  go_ret
  exact ⟨by rw [HD.out]; rfl, bw_alloc (Below.refl _ _)⟩

set_option maxRecDepth 100000 in
set_option maxHeartbeats 1000000 in
theorem number_pos (n : Nat) (w : World) (hn : 0 < n) (hn2 : n ≤ 4611686018427387903) :
    Calls Tryd.prog 34 #[.int .i64 (n : Int)] w fun e w' => e = .returned (.string (txt (Lib.decDigits n))) ∧ Below w.heap.size w w' := by
  have HD : Hid (txt (Lib.decDigits n) = txt (digs n)) := by rw [Hid]; unfold digs; rw [if_neg (by omega)]
  go_enter Tryd.func34, Tryd.ntmps34
  go_wp2
  go_loopw [0, 3] (fun x v wr => ∃ (m : Nat) (l : List UInt8), m ≤ n ∧ x = .int .i64 (m : Int) ∧ v = .string (txt l) ∧ Hid (digs n = digs m ++ l) ∧ Hid (0 < m ∨ l ≠ []) ∧ l.length ≤ 20 ∧ Below w.heap.size w wr) (fun x _ _ => (intOf x).toNat)
  case atStart => exact ⟨n, [], Nat.le_refl _, rfl, rfl, (List.append_nil _).symm, .inl hn, by simp, Below.refl _ _⟩
  case round =>
    obtain ⟨m, l, hm, rfl, rfl, hd, hne, hl, hbr⟩ := hrel
    by_cases h0 : 0 < m
    · have hp : (0 : Int) < (m : Int) := by omega
      obtain ⟨q, hq⟩ : ∃ q, q = m / 10 := ⟨_, rfl⟩
      obtain ⟨d, hdd⟩ : ∃ d, d = m % 10 := ⟨_, rfl⟩
      have e1 : (m : Int) % 10 = (d : Int) := by omega
      have e2 : (m : Int) / 10 = (q : Int) := by omega
      have hd9 : d ≤ 9 := by omega
      have hS := digs_step h0
      rw [← hq, ← hdd] at hS
      have hsz := hbr.size
      have hc : ((UInt8.ofNat (48 + d)).toNat : Int) = 48 + (d : Int) := by rw [UInt8.toNat_ofNat', Nat.mod_eq_of_lt (by omega)]; omega
      have hcat := txt_cat [UInt8.ofNat (48 + d)] l
      have hD : Hid (digs n = digs q ++ ([UInt8.ofNat (48 + d)] ++ l)) := by rw [Hid, hd.out, hS, List.append_assoc]
      have hl2 : ([UInt8.ofNat (48 + d)] ++ l).length ≤ 20 := by
        have := congrArg List.length hD.out
        rw [List.length_append] at this
        have h2 := digs_len 19 n (by omega)
        omega
      have hqm : q < m := by omega
      have HN : Hid ([UInt8.ofNat (48 + d)] ++ l ≠ []) := by rw [Hid]; simp
      have kc := conv1 (wr.alloc (.cells #[.int .u8 (48 + (d : Int))] 5)) wr.heap.size (UInt8.ofNat (48 + d)) (by rw [hc]; exact new_cell rfl rfl)
      rw [show (⟨#[UInt8.ofNat (48 + d)]⟩ : ByteArray) = txt [UInt8.ofNat (48 + d)] from rfl] at kc
      have hz : ¬ 9223372036854775807 < (txt [UInt8.ofNat (48 + d)]).size + (txt l).size := by rw [txt_size, txt_size]; simp; omega
      generalize [UInt8.ofNat (48 + d)] ++ l = l2 at hcat hD hl2 HN
      generalize txt [UInt8.ofNat (48 + d)] = C at kc hcat hz
      clear hS hc hq hdd hd hne
      go_wp2
      exact ⟨⟨q, l2, by omega, rfl, rfl, hD, .inr HN.out, hl2, hbr.alloc hsz _⟩, by simp [intOf]; omega⟩
    · have hm0 : m = 0 := by omega
      have hp : (m : Int) ≤ 0 := by omega
      have hdm : digs m = [] := by unfold digs; rw [if_pos hm0]
      have hl0 : l ≠ [] := hne.out.resolve_left (by omega)
      have HL : Hid (txt (digs n) = txt l) := by rw [Hid, hd.out, hdm]; rfl
      have hTl : (txt l).toList = l := by rw [ByteArray.toList_eq]; rfl
      have hT : (txt l).toList ≠ [] := by rw [hTl]; exact hl0
      generalize txt l = T at *
      have hT2 : T.toList.isEmpty = false := by rw [List.isEmpty_eq_false_iff]; exact hT
      clear hTl hl0 hd hne hm0 hdm
      go_wp2
      go_ret
      exact ⟨by rw [HD.out, HL.out]; rfl, hbr⟩
theorem number_any (n : Int) (w : World) (h0 : 0 ≤ n) (h1 : n ≤ 4611686018427387903) :
    Calls Tryd.prog 34 #[.int .i64 n] w fun e w' => e = .returned (.string (txt (Lib.decDigits n.toNat))) ∧ Below w.heap.size w w' := by
  obtain ⟨m, rfl⟩ := Int.eq_ofNat_of_zero_le h0
  rw [Int.toNat_natCast]
  by_cases hm : m = 0
  · subst hm; exact number_zero w
  · exact number_pos m w (by omega) (by omega)
end Go.Proofs.YtlggbbaigcnpjaaDoor
