/-
  THE CONTRACTS OF quadrigaref01.Has AND With (numbers at a slice).
-/
import Derived.Test.YtjpllcdjiagjlaaSetFrom
import Derived.Test.YtjpllcdjiagjlaaNumsAwake
namespace Go.Proofs.Ytjpllcdjiagjlaa
open Go.RowKit

theorem contains_take (l : List Int) (n : Int) (k : Nat) (h : k < l.length) : (l.take (k + 1)).contains n = ((l.take k).contains n || (n == l.getD k 0)) := by
  rw [take_one l k h, Bool.eq_iff_iff]
  simp only [List.contains_iff_mem, List.mem_append, List.mem_singleton, Bool.or_eq_true, beq_iff_eq]

set_option maxHeartbeats 400000 in
theorem refHas_any (n : Int) (a : Option Addr) (l : List Int) (cap : Nat) (w : World) (hl : l.length ≤ 1000000) (ha : IntsAt w a l) :
    Calls Try.prog 7 #[.slice a l.length cap, .int .i64 n] w fun e w' => e = .returned (.bool (l.contains n)) ∧ w = w' := by
  have HA := Lib.hid ha; clear ha
  go_enter Try.func7, Try.ntmps7
  go_wp2
  go_loop [5] (fun i => ∃ k : Nat, k ≤ l.length ∧ i = .int .i64 k ∧ Hid ((l.take k).contains n = false)) (fun i => l.length - (intOf i).toNat)
  case atStart => exact ⟨0, Nat.zero_le _, rfl, rfl⟩
  case round =>
    obtain ⟨k, hk, rfl, hno⟩ := hrel
    by_cases hlt : k < l.length
    · obtain ⟨b, off, rfl, hc⟩ := HA.out.cell hlt
      have HT := Lib.hid (contains_take l n k hlt)
      have HM : Hid (n = l.getD k 0 → l.contains n = true) := fun e => by
        rw [List.contains_iff_mem, e, List.getD_eq_getElem?_getD, List.getElem?_eq_getElem hlt]; exact List.getElem_mem hlt
      have hki : (k : Int) < (l.length : Int) := by omega
      obtain ⟨c, hcc⟩ : ∃ c, c = l.getD k 0 := ⟨_, rfl⟩
      rw [← hcc] at HT hc HM
      clear hcc
      by_cases he : c = n
      · have hb : (c == n) = true := by rw [beq_iff_eq]; exact he
        have HE := Lib.hid he; clear he
        go_wp2
        go_ret
        exact ⟨ret_bool (by have := HM.out HE.out.symm; simpa using this), rfl⟩
      · have hb : (c == n) = false := by rw [beq_eq_false_iff_ne]; exact he
        have HE := Lib.hid he; clear he
        go_wp2
        go_round
        case rel => exact ⟨k + 1, by omega, by go_num, by rw [Hid, HT.out, hno.out, Bool.false_or, beq_eq_false_iff_ne]; exact fun e => HE.out e.symm⟩
        case measure => simp [intOf]; omega
    · have hki : (l.length : Int) ≤ (k : Int) := by omega
      have hfull : l.contains n = false := by
        have := hno.out
        rw [List.take_of_length_le (by omega)] at this
        exact this
      have HF := Lib.hid hfull; clear hfull
      go_wp2
      go_ret
      exact ⟨ret_bool (by have := HF.out; simpa using this), rfl⟩

/-! ### With -/
def wStep (n : Int) (s : List Int × Bool) (x : Int) : List Int × Bool :=
  if s.2 then (if x = n then s else (s.1 ++ [x], true))
  else if x < n then (s.1 ++ [x], false) else if x = n then (s.1 ++ [n], true) else (s.1 ++ [n] ++ [x], true)
def wFold (l : List Int) (n : Int) (d : Bool) : List Int × Bool := l.foldl (wStep n) ([], d)
def withL (l : List Int) (n : Int) (isIn : Bool) : List Int := if (wFold l n (!isIn)).2 then (wFold l n (!isIn)).1 else (wFold l n (!isIn)).1 ++ [n]
theorem wFold_take (l : List Int) (n : Int) (d : Bool) (k : Nat) (h : k < l.length) : wFold (l.take (k + 1)) n d = wStep n (wFold (l.take k) n d) (l.getD k 0) := by
  rw [take_one l k h]; unfold wFold; rw [List.foldl_append]; rfl
theorem wStep_len (n : Int) (s : List Int × Bool) (x : Int) : (wStep n s x).1.length + (if (wStep n s x).2 then 0 else 1) ≤ s.1.length + (if s.2 then 0 else 1) + 1 := by
  obtain ⟨o, d⟩ := s
  unfold wStep
  cases d <;> simp only [Bool.false_eq_true, if_false, if_true] <;> (repeat' split) <;> simp_all <;> omega
theorem fold_done (n : Int) : ∀ (l : List Int) (o : List Int), l.foldl (wStep n) (o, true) = (o ++ delS l n, true)
  | [], o => by simp [delS]
  | a :: l, o => by
    rw [List.foldl_cons]
    by_cases h : a = n
    · have : wStep n (o, true) a = (o, true) := by simp [wStep, h]
      rw [this, fold_done n l o]
      have : delS (a :: l) n = delS l n := by unfold delS; rw [List.filter_cons_of_neg (by simp [h])]
      rw [this]
    · have : wStep n (o, true) a = (o ++ [a], true) := by simp [wStep, h]
      rw [this, fold_done n l]
      have : delS (a :: l) n = a :: delS l n := by unfold delS; rw [List.filter_cons_of_pos (by simp [h])]
      rw [this, List.append_assoc]; rfl
theorem fold_open (n : Int) : ∀ (l : List Int) (o : List Int), l.Pairwise (· < ·) → (if (l.foldl (wStep n) (o, false)).2 then (l.foldl (wStep n) (o, false)).1 else (l.foldl (wStep n) (o, false)).1 ++ [n]) = o ++ putS l n
  | [], o, _ => by simp [putS]
  | a :: l, o, h => by
    rw [List.pairwise_cons] at h
    rw [List.foldl_cons]
    by_cases h1 : a < n
    · have : wStep n (o, false) a = (o ++ [a], false) := by simp [wStep, h1]
      rw [this, fold_open n l _ h.2]
      unfold putS
      rw [List.filter_cons_of_pos (by simpa using h1), List.filter_cons_of_neg (by simp; omega)]
      simp
    · have hlt : ∀ x ∈ l, n < x := fun x hx => by have := h.1 x hx; omega
      have hd : delS l n = l := delS_none (fun hx => by have := hlt n hx; omega)
      have e1 : l.filter (· < n) = [] := filter_none (fun x hx => by have := hlt x hx; simp; omega)
      have e2 : l.filter (n < ·) = l := filter_all (fun x hx => by simpa using hlt x hx)
      by_cases h2 : a = n
      · have : wStep n (o, false) a = (o ++ [n], true) := by simp [wStep, h2]
        rw [this, fold_done, if_pos rfl]
        unfold putS
        rw [List.filter_cons_of_neg (by simp; omega), List.filter_cons_of_neg (by simp; omega), e1, e2, hd]
        simp
      · have : wStep n (o, false) a = (o ++ [n] ++ [a], true) := by simp [wStep, h1, h2]
        rw [this, fold_done, if_pos rfl]
        unfold putS
        rw [List.filter_cons_of_neg (by simp; omega), List.filter_cons_of_pos (by simp; omega), e1, e2, hd]
        simp
theorem withL_put {l : List Int} (h : l.Pairwise (· < ·)) (n : Int) : withL l n true = putS l n := by
  have := fold_open n l [] h
  rw [List.nil_append] at this
  exact this
theorem withL_del (l : List Int) (n : Int) : withL l n false = delS l n := by
  have := fold_done n l []
  unfold withL wFold
  rw [show (!false) = true from rfl, this]
  rfl
end Go.Proofs.Ytjpllcdjiagjlaa
