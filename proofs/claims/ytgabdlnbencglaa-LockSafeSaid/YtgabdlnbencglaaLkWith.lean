/-
  THE CONTRACT OF quadrigaref01's With; numbers that rise.
-/
import Derived.Test.YtgabdlnbencglaaLkActs
import Derived.Laws.OwnMore
import Derived.BigQuiet
import Derived.Deep.QuietTactic
namespace Go.Proofs.Ytgabdlnbencglaa
open Go.RowKit
def ints (l : List Int) : List Value := l.map (Value.int .i64)
theorem ints_append (a b : List Int) : ints a ++ ints b = ints (a ++ b) := by simp [ints]
theorem owns_below {w w' : World} {B : Nat} {T : TypeId} {v : Value} {n : Nat} {xs : List Value} (h : w.ownsRow B T 1 v n xs) (hb : Below w.heap.size w w') : w'.ownsRow B T 1 v n xs := by
  obtain ⟨h1, h2⟩ := h
  refine ⟨h1, ?_⟩
  rcases h2 with h2 | ⟨g, cap, cur, hv, hg, hc, hn, hm, hs, ht⟩
  · exact .inl h2
  · refine .inr ⟨g, cap, cur, hv, hg, ?_, hn, hm, hs, ht⟩
    have hlt : g < w.heap.size := by
      rcases Nat.lt_or_ge g w.heap.size with h | h
      · exact h
      · simp [Array.getElem?_eq_none h] at hc
    rw [hb.block g hlt]; exact hc
def ListPost (w : World) (l : List Int) (e : Ending) (w' : World) : Prop :=
  ∃ v, e = .returned v ∧ w'.ownsRow w.heap.size 3 1 v l.length (ints l) ∧ Below w.heap.size w w'
def delS (l : List Int) (n : Int) : List Int := l.filter (· != n)
def putS (l : List Int) (n : Int) : List Int := l.filter (· < n) ++ n :: l.filter (n < ·)
theorem filter_none {l : List Int} {p : Int → Bool} (h : ∀ x ∈ l, p x = false) : l.filter p = [] := List.filter_eq_nil_iff.2 (fun x hx => by rw [h x hx]; simp)
theorem filter_all {l : List Int} {p : Int → Bool} (h : ∀ x ∈ l, p x = true) : l.filter p = l := List.filter_eq_self.2 h
theorem delS_none {l : List Int} {n : Int} (h : n ∉ l) : delS l n = l := by
  unfold delS
  refine List.filter_eq_self.2 (fun x hx => ?_)
  have : x ≠ n := fun e => h (by rw [← e]; exact hx)
  simpa using this
/-! ### With -/
def wStep (n : Int) (s : List Int × Bool) (x : Int) : List Int × Bool :=
  if s.2 then (if x = n then s else (s.1 ++ [x], true))
  else if x < n then (s.1 ++ [x], false) else if x = n then (s.1 ++ [n], true) else (s.1 ++ [n] ++ [x], true)
def wFold (l : List Int) (n : Int) (d : Bool) : List Int × Bool := l.foldl (wStep n) ([], d)
def withL (l : List Int) (n : Int) (isIn : Bool) : List Int := if (wFold l n (!isIn)).2 then (wFold l n (!isIn)).1 else (wFold l n (!isIn)).1 ++ [n]
theorem wFold_take (l : List Int) (n : Int) (d : Bool) (k : Nat) (h : k < l.length) : wFold (l.take (k + 1)) n d = wStep n (wFold (l.take k) n d) (l.getD k 0) := by
  rw [take_one l k h]; unfold wFold; rw [List.foldl_append]; rfl
theorem wStep_len (n : Int) (s : List Int × Bool) (x : Int) : (wStep n s x).1.length + (if (wStep n s x).2 then 0 else 1) ≤ s.1.length + (if s.2 then 0 else 1) + 1 := by
  obtain ⟨o, d⟩ := s
  unfold wStep
  cases d <;> simp only [Bool.false_eq_true, if_false, if_true] <;> (repeat' split) <;> simp_all <;> omega
theorem fold_done (n : Int) : ∀ (l : List Int) (o : List Int), l.foldl (wStep n) (o, true) = (o ++ delS l n, true)
  | [], o => by simp [delS]
  | a :: l, o => by
    rw [List.foldl_cons]
    by_cases h : a = n
    · have : wStep n (o, true) a = (o, true) := by simp [wStep, h]
      rw [this, fold_done n l o]
      have : delS (a :: l) n = delS l n := by unfold delS; rw [List.filter_cons_of_neg (by simp [h])]
      rw [this]
    · have : wStep n (o, true) a = (o ++ [a], true) := by simp [wStep, h]
      rw [this, fold_done n l]
      have : delS (a :: l) n = a :: delS l n := by unfold delS; rw [List.filter_cons_of_pos (by simp [h])]
      rw [this, List.append_assoc]; rfl
theorem fold_open (n : Int) : ∀ (l : List Int) (o : List Int), l.Pairwise (· < ·) → (if (l.foldl (wStep n) (o, false)).2 then (l.foldl (wStep n) (o, false)).1 else (l.foldl (wStep n) (o, false)).1 ++ [n]) = o ++ putS l n
  | [], o, _ => by simp [putS]
  | a :: l, o, h => by
    rw [List.pairwise_cons] at h
    rw [List.foldl_cons]
    by_cases h1 : a < n
    · have : wStep n (o, false) a = (o ++ [a], false) := by simp [wStep, h1]
      rw [this, fold_open n l _ h.2]
      unfold putS
      rw [List.filter_cons_of_pos (by simpa using h1), List.filter_cons_of_neg (by simp; omega)]
      simp
    · have hlt : ∀ x ∈ l, n < x := fun x hx => by have := h.1 x hx; omega
      have hd : delS l n = l := delS_none (fun hx => by have := hlt n hx; omega)
      have e1 : l.filter (· < n) = [] := filter_none (fun x hx => by have := hlt x hx; simp; omega)
      have e2 : l.filter (n < ·) = l := filter_all (fun x hx => by simpa using hlt x hx)
      by_cases h2 : a = n
      · have : wStep n (o, false) a = (o ++ [n], true) := by simp [wStep, h2]
        rw [this, fold_done, if_pos rfl]
        unfold putS
        rw [List.filter_cons_of_neg (by simp; omega), List.filter_cons_of_neg (by simp; omega), e1, e2, hd]
        simp
      · have : wStep n (o, false) a = (o ++ [n] ++ [a], true) := by simp [wStep, h1, h2]
        rw [this, fold_done, if_pos rfl]
        unfold putS
        rw [List.filter_cons_of_neg (by simp; omega), List.filter_cons_of_pos (by simp; omega), e1, e2, hd]
        simp
theorem withL_put {l : List Int} (h : l.Pairwise (· < ·)) (n : Int) : withL l n true = putS l n := by
  have := fold_open n l [] h
  rw [List.nil_append] at this
  exact this
theorem withL_del (l : List Int) (n : Int) : withL l n false = delS l n := by
  have := fold_done n l []
  unfold withL wFold
  rw [show (!false) = true from rfl, this]
  rfl
theorem new_int (W : World) (x : Int) : ∀ j u, ([.int .i64 x] : List Value)[j]? = some u → (W.alloc (.cells #[.int .i64 x] 3)).cell? ((⟨W.heap.size, 0, none⟩ : Addr).add j) = some u := fun j u hj => by
  match j, hj with
  | 0, hj =>
    simp at hj
    subst hj
    show (W.alloc _).cell? ⟨W.heap.size, 0, none⟩ = _
    rw [World.cell?_alloc_at _ _ _ _ rfl]; rfl

/-- append of one number to a row of the call's own. -/
theorem wpList_app_int {ops : Array Oper} {rest : List Oper} {op : Oper} {a : Act} {Q : Exit → Act → World → Prop} (hgd : op.guard = none) (s x : Operand)
    (ho : op.op = .call { callee := .builtin .append, args := #[s, x], argTypes := #[32, 32] }) (W w : World) (v : Value) (o : List Int) (c : Int) (hs : a.eval s = v) (hx : a.eval x = .slice (some ⟨W.heap.size, 0, none⟩) 1 1)
    (hown : W.ownsRow w.heap.size 3 1 v o.length (ints o)) (hbr : Below w.heap.size w W) (hl : o.length ≤ 1000000)
    (h : ∀ v' w2, w2.ownsRow w.heap.size 3 1 v' (o ++ [c]).length (ints (o ++ [c])) → Below w.heap.size w w2 → wpList Try.prog ops Q rest (a.put op.dst v') w2) :
    wpList Try.prog ops Q (op :: rest) a (W.alloc (.cells #[.int .i64 c] 3)) := by
  obtain ⟨i0, hi, hz0, hz1, hz2⟩ := info_parts infoI
  have hba : Below W.heap.size W (W.alloc (.cells #[.int .i64 c] 3)) := (Below.refl _ _).alloc (Nat.le_refl _) _
  have hown2 := owns_below hown hba
  have hsz : w.heap.size ≤ (W.alloc (.cells #[.int .i64 c] 3)).heap.size := Nat.le_trans hbr.size hba.size
  refine wpList_append_own _ hgd s x 32 ho w.heap.size 3 i0 (.int .i64 0) 1 8 Try.underlying32 hi hz0 hz1 hz2 rfl (by decide) v o.length (ints o) hs hown2 ⟨W.heap.size, 0, none⟩ 1 1 [.int .i64 c] hx rfl (new_int W c) (fun u hu => by simp at hu; subst hu; rfl) (by unfold maxLen; omega) (by omega) hsz ?_
  intro v' w2 h1 h2 _
  refine h v' w2 ?_ ((hbr.alloc hbr.size _).grown h2 hsz (fun k hk => (hown2.lt k hk).1))
  rw [← ints_append, List.length_append]
  exact h1

theorem wFold_len (n : Int) : ∀ (l : List Int) (s : List Int × Bool), (l.foldl (wStep n) s).1.length + (if (l.foldl (wStep n) s).2 then 0 else 1) ≤ s.1.length + (if s.2 then 0 else 1) + l.length
  | [], s => Nat.le_refl _
  | a :: l, s => by
    have h1 := wFold_len n l (wStep n s a)
    have h2 := wStep_len n s a
    rw [List.foldl_cons, List.length_cons]
    omega

set_option maxHeartbeats 2000000 in
theorem refWith_any (n : Int) (isIn : Bool) (a : Option Addr) (l : List Int) (cap : Nat) (w : World) (hl : l.length ≤ 100000) (ha : IntsAt w a l) :
    Calls Try.prog 15 #[.slice a l.length cap, .int .i64 n, .bool isIn] w (ListPost w (withL l n isIn)) := by
  have HA := Lib.hid ha; clear ha
  go_enter Try.func15, Try.ntmps15
  go_wp2
  go_loopw [7, 8, 9] (fun v d i wr => ∃ k : Nat, k ≤ l.length ∧ i = .int .i64 k ∧ d = .bool (wFold (l.take k) n (!isIn)).2 ∧ wr.ownsRow w.heap.size 3 1 v (wFold (l.take k) n (!isIn)).1.length (ints (wFold (l.take k) n (!isIn)).1) ∧ Below w.heap.size w wr) (fun _ _ i _ => l.length - (intOf i).toNat)
  case atStart => exact ⟨0, Nat.zero_le _, rfl, rfl, World.ownsRow_nil _ _ _ _, Below.refl _ _⟩
  case round =>
    obtain ⟨k, hk, rfl, rfl, hown, hbr⟩ := hrel
    have hlen := wFold_len n (l.take k) ([], !isIn)
    have hlen2 : (l.take k).length ≤ k := List.length_take_le _ _
    have hlen3 : (wFold (l.take k) n (!isIn)).1.length ≤ k + 1 := by
      have : (if (([] : List Int), !isIn).2 = true then 0 else 1) ≤ 1 := by split <;> omega
      unfold wFold
      have h0 : (([] : List Int), !isIn).1.length = 0 := rfl
      omega
    clear hlen hlen2
    by_cases hlt : k < l.length
    · obtain ⟨b, off, rfl, hc⟩ := (HA.out.below hbr).cell hlt
      have HT := Lib.hid (wFold_take l n (!isIn) k hlt)
      have hki : (k : Int) < (l.length : Int) := by omega
      have HCN := Lib.hid fun W (hW : Below w.heap.size w W) => (HA.out.below hW)
      obtain ⟨c, hcc⟩ : ∃ c, c = l.getD k 0 := ⟨_, rfl⟩
      have HCC := Lib.hid hcc
      rw [← hcc] at HT hc
      obtain ⟨s, hs⟩ : ∃ s, s = wFold (l.take k) n (!isIn) := ⟨_, rfl⟩
      rw [← hs] at HT hown hlen3 ⊢
      obtain ⟨o, dn⟩ := s
      clear hcc hs
      dsimp only at hown hlen3 ⊢
      cases dn
      · by_cases h1 : c < n
        · have e1 : decide (n ≤ c) = false := by simp; omega
          have e2 : (c != n) = true := by rw [bne_iff_ne]; omega
          have hst : wStep n (o, false) c = (o ++ [c], false) := by simp [wStep, h1]
          rw [hst] at HT
          clear hst
          go_wp2_with (at_builtin; have h00 := hown; have h01 := hbr; have h02 : (o).length ≤ 1000000 := (by omega); refine wpList_app_int (by rfl) _ _ (by rfl) wr w _ (o) c (by rfl) (by rfl) h00 h01 h02 ?_)
          intro v' w2 ho2 hb2
          have HO2 := Lib.hid ho2; clear ho2 hown
          go_wp2
          go_roundw
          case rel => exact ⟨k + 1, by omega, by go_num, by rw [HT.out], by rw [HT.out]; simpa using HO2.out, hb2⟩
          case measure => simp [intOf]; omega
        · by_cases h2 : c = n
          · have e1 : decide (n ≤ c) = true := by simp; omega
            have e2 : (c != n) = false := by rw [bne_eq_false_iff_eq]; exact h2
            have hst : wStep n (o, false) c = (o ++ [n], true) := by simp [wStep, h2]
            rw [hst] at HT
            have H2 := Lib.hid h2; clear hst h2 h1
            go_wp2_with (at_builtin; have h00 := hown; have h01 := hbr; have h02 : (o).length ≤ 1000000 := (by omega); refine wpList_app_int (by rfl) _ _ (by rfl) wr w _ (o) n (by rfl) (by rfl) h00 h01 h02 ?_)
            intro v' w2 ho2 hb2
            have hc2 := ((HCN.out w2 hb2).cell hlt)
            obtain ⟨b2, off2, hbb, hc3⟩ := hc2
            cases hbb
            rw [← HCC.out] at hc3
            have HO2 := Lib.hid ho2; clear ho2 hown
            go_wp2
            go_roundw
            case rel => exact ⟨k + 1, by omega, by go_num, by rw [HT.out], by rw [HT.out]; simpa using HO2.out, hb2⟩
            case measure => simp [intOf]; omega
          · have e1 : decide (n ≤ c) = true := by simp; omega
            have e2 : (c != n) = true := by rw [bne_iff_ne]; exact h2
            have hst : wStep n (o, false) c = (o ++ [n] ++ [c], true) := by simp [wStep, h1, h2]
            rw [hst] at HT
            clear hst h1
            go_wp2_with (at_builtin; have h00 := hown; have h01 := hbr; have h02 : (o).length ≤ 1000000 := (by omega); refine wpList_app_int (by rfl) _ _ (by rfl) wr w _ (o) n (by rfl) (by rfl) h00 h01 h02 ?_)
            intro v2 w3 ho3 hb3
            have hc2 := ((HCN.out w3 hb3).cell hlt)
            obtain ⟨b2, off2, hbb, hc3⟩ := hc2
            cases hbb
            rw [← HCC.out] at hc3
            clear hown
            have HO3z : w3.ownsRow w.heap.size 3 1 v2 (o ++ [n]).length (ints (o ++ [n])) := by simpa using ho3
            have HO3 := Lib.hid HO3z; clear HO3z
            have HB3 := Lib.hid hb3
            clear ho3 hbr hc
            go_wp2_with (at_builtin; have h00 := HO3.out; have h01 := HB3.out; have h02 : (o ++ [n]).length ≤ 1000000 := (by rw [List.length_append]; show o.length + 1 ≤ _; omega); refine wpList_app_int (by rfl) _ _ (by rfl) w3 w _ (o ++ [n]) c (by rfl) (by rfl) h00 h01 h02 ?_)
            intro v' w2 ho2 hb2
            have HO2 := Lib.hid ho2; clear ho2
            go_wp2
            go_roundw
            case rel => exact ⟨k + 1, by omega, by go_num, by rw [HT.out], by rw [HT.out]; simpa using HO2.out, hb2⟩
            case measure => simp [intOf]; omega
      · by_cases h2 : c = n
        · have e2 : (c != n) = false := by rw [bne_eq_false_iff_eq]; exact h2
          have hst : wStep n (o, true) c = (o, true) := by simp [wStep, h2]
          rw [hst] at HT
          have H2 := Lib.hid h2; clear hst h2
          have HO2 := Lib.hid hown; clear hown
          go_wp2
          go_roundw
          case rel => exact ⟨k + 1, by omega, by go_num, by rw [HT.out], by rw [HT.out]; simpa using HO2.out, hbr⟩
          case measure => simp [intOf]; omega
        · have e2 : (c != n) = true := by rw [bne_iff_ne]; exact h2
          have hst : wStep n (o, true) c = (o ++ [c], true) := by simp [wStep, h2]
          rw [hst] at HT
          clear hst
          go_wp2_with (at_builtin; have h00 := hown; have h01 := hbr; have h02 : (o).length ≤ 1000000 := (by omega); refine wpList_app_int (by rfl) _ _ (by rfl) wr w _ (o) c (by rfl) (by rfl) h00 h01 h02 ?_)
          intro v' w2 ho2 hb2
          have HO2 := Lib.hid ho2; clear ho2 hown
          go_wp2
          go_roundw
          case rel => exact ⟨k + 1, by omega, by go_num, by rw [HT.out], by rw [HT.out]; simpa using HO2.out, hb2⟩
          case measure => simp [intOf]; omega
    · have hki : (l.length : Int) ≤ (k : Int) := by omega
      have hfull : l.take k = l := List.take_of_length_le (by omega)
      rw [hfull] at hown hlen3 ⊢
      have HW : Hid (withL l n isIn = if (wFold l n (!isIn)).2 then (wFold l n (!isIn)).1 else (wFold l n (!isIn)).1 ++ [n]) := rfl
      obtain ⟨s, hs⟩ : ∃ s, s = wFold l n (!isIn) := ⟨_, rfl⟩
      rw [← hs] at HW hown hlen3 ⊢
      obtain ⟨o, dn⟩ := s
      clear hs hfull
      dsimp only at hown hlen3 HW ⊢
      cases dn
      · go_wp2_with (at_builtin; have h00 := hown; have h01 := hbr; have h02 : (o).length ≤ 1000000 := (by omega); refine wpList_app_int (by rfl) _ _ (by rfl) wr w _ (o) n (by rfl) (by rfl) h00 h01 h02 ?_)
        intro v' w2 ho2 hb2
        have HO2 := Lib.hid ho2; clear ho2 hown
        go_wp2
        go_ret
        refine ⟨_, rfl, ?_, hb2⟩
        rw [HW.out]
        simpa using HO2.out
      · have HO2 := Lib.hid hown; clear hown
        go_wp2
        go_ret
        refine ⟨_, rfl, ?_, hbr⟩
        rw [HW.out]
        simpa using HO2.out
end Go.Proofs.Ytgabdlnbencglaa
