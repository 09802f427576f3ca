/-
  THE CONTRACT OF quadrigaref01's With; numbers that rise.
  NO TWO HOLD WHAT DOESN'T GO TOGETHER; who waits, waits for one that holds: pure.
-/
import Derived.Test.YtjojempjmpaaaaaLkActs
import Derived.Laws.OwnMore
import Derived.BigQuiet
import Derived.Deep.QuietTactic
import Derived.Test.YtjojempjmpaaaaaLkQuitsP
namespace Go.Proofs.Ytjojempjmpaaaaa
open Go.RowKit
def ints (l : List Int) : List Value := l.map (Value.int .i64)
theorem ints_append (a b : List Int) : ints a ++ ints b = ints (a ++ b) := by simp [ints]
theorem owns_below {w w' : World} {B : Nat} {T : TypeId} {v : Value} {n : Nat} {xs : List Value} (h : w.ownsRow B T 1 v n xs) (hb : Below w.heap.size w w') : w'.ownsRow B T 1 v n xs := by
  obtain ⟨h1, h2⟩ := h
  refine ⟨h1, ?_⟩
  rcases h2 with h2 | ⟨g, cap, cur, hv, hg, hc, hn, hm, hs, ht⟩
  · exact .inl h2
  · refine .inr ⟨g, cap, cur, hv, hg, ?_, hn, hm, hs, ht⟩
    have hlt : g < w.heap.size := by
      rcases Nat.lt_or_ge g w.heap.size with h | h
      · exact h
      · simp [Array.getElem?_eq_none h] at hc
    rw [hb.block g hlt]; exact hc
def ListPost (w : World) (l : List Int) (e : Ending) (w' : World) : Prop :=
  ∃ v, e = .returned v ∧ w'.ownsRow w.heap.size 3 1 v l.length (ints l) ∧ Below w.heap.size w w'
def delS (l : List Int) (n : Int) : List Int := l.filter (· != n)
def putS (l : List Int) (n : Int) : List Int := l.filter (· < n) ++ n :: l.filter (n < ·)
theorem filter_none {l : List Int} {p : Int → Bool} (h : ∀ x ∈ l, p x = false) : l.filter p = [] := List.filter_eq_nil_iff.2 (fun x hx => by rw [h x hx]; simp)
theorem filter_all {l : List Int} {p : Int → Bool} (h : ∀ x ∈ l, p x = true) : l.filter p = l := List.filter_eq_self.2 h
theorem delS_none {l : List Int} {n : Int} (h : n ∉ l) : delS l n = l := by
  unfold delS
  refine List.filter_eq_self.2 (fun x hx => ?_)
  have : x ≠ n := fun e => h (by rw [← e]; exact hx)
  simpa using this
/-! ### With -/
def wStep (n : Int) (s : List Int × Bool) (x : Int) : List Int × Bool :=
  if s.2 then (if x = n then s else (s.1 ++ [x], true))
  else if x < n then (s.1 ++ [x], false) else if x = n then (s.1 ++ [n], true) else (s.1 ++ [n] ++ [x], true)
def wFold (l : List Int) (n : Int) (d : Bool) : List Int × Bool := l.foldl (wStep n) ([], d)
def withL (l : List Int) (n : Int) (isIn : Bool) : List Int := if (wFold l n (!isIn)).2 then (wFold l n (!isIn)).1 else (wFold l n (!isIn)).1 ++ [n]
theorem wFold_take (l : List Int) (n : Int) (d : Bool) (k : Nat) (h : k < l.length) : wFold (l.take (k + 1)) n d = wStep n (wFold (l.take k) n d) (l.getD k 0) := by
  rw [take_one l k h]; unfold wFold; rw [List.foldl_append]; rfl
theorem wStep_len (n : Int) (s : List Int × Bool) (x : Int) : (wStep n s x).1.length + (if (wStep n s x).2 then 0 else 1) ≤ s.1.length + (if s.2 then 0 else 1) + 1 := by
  obtain ⟨o, d⟩ := s
  unfold wStep
  cases d <;> simp only [Bool.false_eq_true, if_false, if_true] <;> (repeat' split) <;> simp_all <;> omega
theorem fold_done (n : Int) : ∀ (l : List Int) (o : List Int), l.foldl (wStep n) (o, true) = (o ++ delS l n, true)
  | [], o => by simp [delS]
  | a :: l, o => by
    rw [List.foldl_cons]
    by_cases h : a = n
    · have : wStep n (o, true) a = (o, true) := by simp [wStep, h]
      rw [this, fold_done n l o]
      have : delS (a :: l) n = delS l n := by unfold delS; rw [List.filter_cons_of_neg (by simp [h])]
      rw [this]
    · have : wStep n (o, true) a = (o ++ [a], true) := by simp [wStep, h]
      rw [this, fold_done n l]
      have : delS (a :: l) n = a :: delS l n := by unfold delS; rw [List.filter_cons_of_pos (by simp [h])]
      rw [this, List.append_assoc]; rfl
theorem fold_open (n : Int) : ∀ (l : List Int) (o : List Int), l.Pairwise (· < ·) → (if (l.foldl (wStep n) (o, false)).2 then (l.foldl (wStep n) (o, false)).1 else (l.foldl (wStep n) (o, false)).1 ++ [n]) = o ++ putS l n
  | [], o, _ => by simp [putS]
  | a :: l, o, h => by
    rw [List.pairwise_cons] at h
    rw [List.foldl_cons]
    by_cases h1 : a < n
    · have : wStep n (o, false) a = (o ++ [a], false) := by simp [wStep, h1]
      rw [this, fold_open n l _ h.2]
      unfold putS
      rw [List.filter_cons_of_pos (by simpa using h1), List.filter_cons_of_neg (by simp; omega)]
      simp
    · have hlt : ∀ x ∈ l, n < x := fun x hx => by have := h.1 x hx; omega
      have hd : delS l n = l := delS_none (fun hx => by have := hlt n hx; omega)
      have e1 : l.filter (· < n) = [] := filter_none (fun x hx => by have := hlt x hx; simp; omega)
      have e2 : l.filter (n < ·) = l := filter_all (fun x hx => by simpa using hlt x hx)
      by_cases h2 : a = n
      · have : wStep n (o, false) a = (o ++ [n], true) := by simp [wStep, h2]
        rw [this, fold_done, if_pos rfl]
        unfold putS
        rw [List.filter_cons_of_neg (by simp; omega), List.filter_cons_of_neg (by simp; omega), e1, e2, hd]
        simp
      · have : wStep n (o, false) a = (o ++ [n] ++ [a], true) := by simp [wStep, h1, h2]
        rw [this, fold_done, if_pos rfl]
        unfold putS
        rw [List.filter_cons_of_neg (by simp; omega), List.filter_cons_of_pos (by simp; omega), e1, e2, hd]
        simp
theorem withL_put {l : List Int} (h : l.Pairwise (· < ·)) (n : Int) : withL l n true = putS l n := by
  have := fold_open n l [] h
  rw [List.nil_append] at this
  exact this
theorem withL_del (l : List Int) (n : Int) : withL l n false = delS l n := by
  have := fold_done n l []
  unfold withL wFold
  rw [show (!false) = true from rfl, this]
  rfl
theorem new_int (W : World) (x : Int) : ∀ j u, ([.int .i64 x] : List Value)[j]? = some u → (W.alloc (.cells #[.int .i64 x] 3)).cell? ((⟨W.heap.size, 0, none⟩ : Addr).add j) = some u := fun j u hj => by
  match j, hj with
  | 0, hj =>
    simp at hj
    subst hj
    show (W.alloc _).cell? ⟨W.heap.size, 0, none⟩ = _
    rw [World.cell?_alloc_at _ _ _ _ rfl]; rfl

/-- append of one number to a row of the call's own. -/
theorem wpList_app_int {ops : Array Oper} {rest : List Oper} {op : Oper} {a : Act} {Q : Exit → Act → World → Prop} (hgd : op.guard = none) (s x : Operand)
    (ho : op.op = .call { callee := .builtin .append, args := #[s, x], argTypes := #[32, 32] }) (W w : World) (v : Value) (o : List Int) (c : Int) (hs : a.eval s = v) (hx : a.eval x = .slice (some ⟨W.heap.size, 0, none⟩) 1 1)
    (hown : W.ownsRow w.heap.size 3 1 v o.length (ints o)) (hbr : Below w.heap.size w W) (hl : o.length ≤ 1000000)
    (h : ∀ v' w2, w2.ownsRow w.heap.size 3 1 v' (o ++ [c]).length (ints (o ++ [c])) → Below w.heap.size w w2 → wpList Try.prog ops Q rest (a.put op.dst v') w2) :
    wpList Try.prog ops Q (op :: rest) a (W.alloc (.cells #[.int .i64 c] 3)) := by
  obtain ⟨i0, hi, hz0, hz1, hz2⟩ := info_parts infoI
  have hba : Below W.heap.size W (W.alloc (.cells #[.int .i64 c] 3)) := (Below.refl _ _).alloc (Nat.le_refl _) _
  have hown2 := owns_below hown hba
  have hsz : w.heap.size ≤ (W.alloc (.cells #[.int .i64 c] 3)).heap.size := Nat.le_trans hbr.size hba.size
  refine wpList_append_own _ hgd s x 32 ho w.heap.size 3 i0 (.int .i64 0) 1 8 Try.underlying32 hi hz0 hz1 hz2 rfl (by decide) v o.length (ints o) hs hown2 ⟨W.heap.size, 0, none⟩ 1 1 [.int .i64 c] hx rfl (new_int W c) (fun u hu => by simp at hu; subst hu; rfl) (by unfold maxLen; omega) (by omega) hsz ?_
  intro v' w2 h1 h2 _
  refine h v' w2 ?_ ((hbr.alloc hbr.size _).grown h2 hsz (fun k hk => (hown2.lt k hk).1))
  rw [← ints_append, List.length_append]
  exact h1

theorem wFold_len (n : Int) : ∀ (l : List Int) (s : List Int × Bool), (l.foldl (wStep n) s).1.length + (if (l.foldl (wStep n) s).2 then 0 else 1) ≤ s.1.length + (if s.2 then 0 else 1) + l.length
  | [], s => Nat.le_refl _
  | a :: l, s => by
    have h1 := wFold_len n l (wStep n s a)
    have h2 := wStep_len n s a
    rw [List.foldl_cons, List.length_cons]
    omega

set_option maxHeartbeats 2000000 in
theorem refWith_any (n : Int) (isIn : Bool) (a : Option Addr) (l : List Int) (cap : Nat) (w : World) (hl : l.length ≤ 100000) (ha : IntsAt w a l) :
    Calls Try.prog 15 #[.slice a l.length cap, .int .i64 n, .bool isIn] w (ListPost w (withL l n isIn)) := by
  have HA := Lib.hid ha; clear ha
  go_enter Try.func15, Try.ntmps15
  go_wp2
  go_loopw [7, 8, 9] (fun v d i wr => ∃ k : Nat, k ≤ l.length ∧ i = .int .i64 k ∧ d = .bool (wFold (l.take k) n (!isIn)).2 ∧ wr.ownsRow w.heap.size 3 1 v (wFold (l.take k) n (!isIn)).1.length (ints (wFold (l.take k) n (!isIn)).1) ∧ Below w.heap.size w wr) (fun _ _ i _ => l.length - (intOf i).toNat)
  case atStart => exact ⟨0, Nat.zero_le _, rfl, rfl, World.ownsRow_nil _ _ _ _, Below.refl _ _⟩
  case round =>
    obtain ⟨k, hk, rfl, rfl, hown, hbr⟩ := hrel
    have hlen := wFold_len n (l.take k) ([], !isIn)
    have hlen2 : (l.take k).length ≤ k := List.length_take_le _ _
    have hlen3 : (wFold (l.take k) n (!isIn)).1.length ≤ k + 1 := by
      have : (if (([] : List Int), !isIn).2 = true then 0 else 1) ≤ 1 := by split <;> omega
      unfold wFold
      have h0 : (([] : List Int), !isIn).1.length = 0 := rfl
      omega
    clear hlen hlen2
    by_cases hlt : k < l.length
    · obtain ⟨b, off, rfl, hc⟩ := (HA.out.below hbr).cell hlt
      have HT := Lib.hid (wFold_take l n (!isIn) k hlt)
      have hki : (k : Int) < (l.length : Int) := by omega
      have HCN := Lib.hid fun W (hW : Below w.heap.size w W) => (HA.out.below hW)
      obtain ⟨c, hcc⟩ : ∃ c, c = l.getD k 0 := ⟨_, rfl⟩
      have HCC := Lib.hid hcc
      rw [← hcc] at HT hc
      obtain ⟨s, hs⟩ : ∃ s, s = wFold (l.take k) n (!isIn) := ⟨_, rfl⟩
      rw [← hs] at HT hown hlen3 ⊢
      obtain ⟨o, dn⟩ := s
      clear hcc hs
      dsimp only at hown hlen3 ⊢
      cases dn
      · by_cases h1 : c < n
        · have e1 : decide (n ≤ c) = false := by simp; omega
          have e2 : (c != n) = true := by rw [bne_iff_ne]; omega
          have hst : wStep n (o, false) c = (o ++ [c], false) := by simp [wStep, h1]
          rw [hst] at HT
          clear hst
          go_wp2_with (at_builtin; have h00 := hown; have h01 := hbr; have h02 : (o).length ≤ 1000000 := (by omega); refine wpList_app_int (by rfl) _ _ (by rfl) wr w _ (o) c (by rfl) (by rfl) h00 h01 h02 ?_)
          intro v' w2 ho2 hb2
          have HO2 := Lib.hid ho2; clear ho2 hown
          go_wp2
          go_roundw
          case rel => exact ⟨k + 1, by omega, by go_num, by rw [HT.out], by rw [HT.out]; simpa using HO2.out, hb2⟩
          case measure => simp [intOf]; omega
        · by_cases h2 : c = n
          · have e1 : decide (n ≤ c) = true := by simp; omega
            have e2 : (c != n) = false := by rw [bne_eq_false_iff_eq]; exact h2
            have hst : wStep n (o, false) c = (o ++ [n], true) := by simp [wStep, h2]
            rw [hst] at HT
            have H2 := Lib.hid h2; clear hst h2 h1
            go_wp2_with (at_builtin; have h00 := hown; have h01 := hbr; have h02 : (o).length ≤ 1000000 := (by omega); refine wpList_app_int (by rfl) _ _ (by rfl) wr w _ (o) n (by rfl) (by rfl) h00 h01 h02 ?_)
            intro v' w2 ho2 hb2
            have hc2 := ((HCN.out w2 hb2).cell hlt)
            obtain ⟨b2, off2, hbb, hc3⟩ := hc2
            cases hbb
            rw [← HCC.out] at hc3
            have HO2 := Lib.hid ho2; clear ho2 hown
            go_wp2
            go_roundw
            case rel => exact ⟨k + 1, by omega, by go_num, by rw [HT.out], by rw [HT.out]; simpa using HO2.out, hb2⟩
            case measure => simp [intOf]; omega
          · have e1 : decide (n ≤ c) = true := by simp; omega
            have e2 : (c != n) = true := by rw [bne_iff_ne]; exact h2
            have hst : wStep n (o, false) c = (o ++ [n] ++ [c], true) := by simp [wStep, h1, h2]
            rw [hst] at HT
            clear hst h1
            go_wp2_with (at_builtin; have h00 := hown; have h01 := hbr; have h02 : (o).length ≤ 1000000 := (by omega); refine wpList_app_int (by rfl) _ _ (by rfl) wr w _ (o) n (by rfl) (by rfl) h00 h01 h02 ?_)
            intro v2 w3 ho3 hb3
            have hc2 := ((HCN.out w3 hb3).cell hlt)
            obtain ⟨b2, off2, hbb, hc3⟩ := hc2
            cases hbb
            rw [← HCC.out] at hc3
            clear hown
            have HO3z : w3.ownsRow w.heap.size 3 1 v2 (o ++ [n]).length (ints (o ++ [n])) := by simpa using ho3
            have HO3 := Lib.hid HO3z; clear HO3z
            have HB3 := Lib.hid hb3
            clear ho3 hbr hc
            go_wp2_with (at_builtin; have h00 := HO3.out; have h01 := HB3.out; have h02 : (o ++ [n]).length ≤ 1000000 := (by rw [List.length_append]; show o.length + 1 ≤ _; omega); refine wpList_app_int (by rfl) _ _ (by rfl) w3 w _ (o ++ [n]) c (by rfl) (by rfl) h00 h01 h02 ?_)
            intro v' w2 ho2 hb2
            have HO2 := Lib.hid ho2; clear ho2
            go_wp2
            go_roundw
            case rel => exact ⟨k + 1, by omega, by go_num, by rw [HT.out], by rw [HT.out]; simpa using HO2.out, hb2⟩
            case measure => simp [intOf]; omega
      · by_cases h2 : c = n
        · have e2 : (c != n) = false := by rw [bne_eq_false_iff_eq]; exact h2
          have hst : wStep n (o, true) c = (o, true) := by simp [wStep, h2]
          rw [hst] at HT
          have H2 := Lib.hid h2; clear hst h2
          have HO2 := Lib.hid hown; clear hown
          go_wp2
          go_roundw
          case rel => exact ⟨k + 1, by omega, by go_num, by rw [HT.out], by rw [HT.out]; simpa using HO2.out, hbr⟩
          case measure => simp [intOf]; omega
        · have e2 : (c != n) = true := by rw [bne_iff_ne]; exact h2
          have hst : wStep n (o, true) c = (o ++ [c], true) := by simp [wStep, h2]
          rw [hst] at HT
          clear hst
          go_wp2_with (at_builtin; have h00 := hown; have h01 := hbr; have h02 : (o).length ≤ 1000000 := (by omega); refine wpList_app_int (by rfl) _ _ (by rfl) wr w _ (o) c (by rfl) (by rfl) h00 h01 h02 ?_)
          intro v' w2 ho2 hb2
          have HO2 := Lib.hid ho2; clear ho2 hown
          go_wp2
          go_roundw
          case rel => exact ⟨k + 1, by omega, by go_num, by rw [HT.out], by rw [HT.out]; simpa using HO2.out, hb2⟩
          case measure => simp [intOf]; omega
    · have hki : (l.length : Int) ≤ (k : Int) := by omega
      have hfull : l.take k = l := List.take_of_length_le (by omega)
      rw [hfull] at hown hlen3 ⊢
      have HW : Hid (withL l n isIn = if (wFold l n (!isIn)).2 then (wFold l n (!isIn)).1 else (wFold l n (!isIn)).1 ++ [n]) := rfl
      obtain ⟨s, hs⟩ : ∃ s, s = wFold l n (!isIn) := ⟨_, rfl⟩
      rw [← hs] at HW hown hlen3 ⊢
      obtain ⟨o, dn⟩ := s
      clear hs hfull
      dsimp only at hown hlen3 HW ⊢
      cases dn
      · go_wp2_with (at_builtin; have h00 := hown; have h01 := hbr; have h02 : (o).length ≤ 1000000 := (by omega); refine wpList_app_int (by rfl) _ _ (by rfl) wr w _ (o) n (by rfl) (by rfl) h00 h01 h02 ?_)
        intro v' w2 ho2 hb2
        have HO2 := Lib.hid ho2; clear ho2 hown
        go_wp2
        go_ret
        refine ⟨_, rfl, ?_, hb2⟩
        rw [HW.out]
        simpa using HO2.out
      · have HO2 := Lib.hid hown; clear hown
        go_wp2
        go_ret
        refine ⟨_, rfl, ?_, hbr⟩
        rw [HW.out]
        simpa using HO2.out
end Go.Proofs.Ytjojempjmpaaaaa

namespace Go.Proofs.Ytjojempjmpaaaaa
open Go.RowKit
/-- All that hold and wait are among some. -/
def Dm (s : Lk) (os : List Int) : Prop := ∀ i k w, i < 3 → w ∈ s.q i k → (s.con w).ow ∈ os
section
variable {s s' : Lk} {os : List Int} {o : Int} {k : ByteArray}
theorem putS_mem {l : List Int} {n x : Int} : x ∈ putS l n ↔ x = n ∨ x ∈ l := by
  unfold putS
  rw [List.mem_append, List.mem_cons, List.mem_filter, List.mem_filter, decide_eq_true_iff, decide_eq_true_iff]
  constructor
  · rintro (h | h | h)
    · exact .inr h.1
    · exact .inl h
    · exact .inr h.1
  · rintro (h | h)
    · exact .inr (.inl h)
    · rcases Int.lt_trichotomy x n with c | c | c
      · exact .inl ⟨h, c⟩
      · exact .inr (.inl c)
      · exact .inr (.inr ⟨h, c⟩)
theorem putS_up {l : List Int} (h : l.Pairwise (· < ·)) (n : Int) : (putS l n).Pairwise (· < ·) := by
  unfold putS
  rw [List.pairwise_append, List.pairwise_cons]
  refine ⟨h.sublist List.filter_sublist, ⟨fun a ha => ?_, h.sublist List.filter_sublist⟩, fun a ha b hb => ?_⟩
  · rw [List.mem_filter, decide_eq_true_iff] at ha; exact ha.2
  · rw [List.mem_filter, decide_eq_true_iff] at ha
    rcases List.mem_cons.1 hb with e | e
    · rw [e]; exact ha.2
    · rw [List.mem_filter, decide_eq_true_iff] at e
      omega
theorem putS_len (l : List Int) (n : Int) : (putS l n).length ≤ l.length + 1 := by
  have : ∀ l : List Int, (l.filter (· < n)).length + (l.filter (n < ·)).length ≤ l.length := fun l => by
    induction l with
    | nil => simp
    | cons a t ih =>
      rw [List.filter_cons, List.filter_cons]
      by_cases h1 : a < n
      · have h2 : ¬ n < a := by omega
        rw [if_pos (by simpa using h1), if_neg (by simpa using h2), List.length_cons, List.length_cons]; omega
      · rw [if_neg (by simpa using h1)]
        split
        · rw [List.length_cons, List.length_cons]; omega
        · rw [List.length_cons]; omega
  have h := this l
  unfold putS
  rw [List.length_append, List.length_cons]
  omega
theorem Dm.mono {os2 : List Int} (h : Dm s os) (hs : ∀ x, x ∈ os → x ∈ os2) : Dm s os2 := fun i k w hi hw => hs _ (h i k w hi hw)
theorem Dm.put (h : Dm s os) (n : Int) : Dm s (putS os n) := h.mono (fun _ hx => putS_mem.2 (.inr hx))
theorem Dm.passed {P : ByteArray → Prop} (h : Dm s os) (hp : Passed P s s') : Dm s' os := fun i k w hi hw => by
  rw [hp.ow w]
  by_cases e : i = 0
  · subst e
    obtain ⟨j, hj, e⟩ := hp.hs k w hw
    exact h j k w hj e
  · exact h i k w hi (hp.sub i k w (by omega) hw)
theorem Dm.ask {b : Bool} {e : Int} (h : Dm s os) (hr : AskR s o k b e s') : Dm s' (putS os o) := by
  have same : Dm s (putS os o) := h.put o
  have new : ∀ {i0 : Nat} {q : Nat → ByteArray → List Nat} {con : Nat → Wc} {w : Nat} {x : Wc}, x.ow = o → con = updC s.con w x → q = updQ s.q i0 x.k (s.q i0 x.k ++ [w]) → (∀ i k', i < 3 → w ∉ s.q i k') → ∀ i k' y, i < 3 → y ∈ q i k' → (con y).ow ∈ putS os o := fun {i0 q con w x} hx hc hq hw i k' y hi hy => by
    subst hc hq
    rcases mem_updQ_snoc hy with c | c
    · rw [updC_other _ _ (fun e => hw i k' hi (by rw [← e]; exact c))]
      exact same i k' y hi c
    · rw [c, updC_same, hx]
      exact putS_mem.2 (.inl rfl)
  cases hr with
  | neg h => exact same
  | state w h h2 => exact same
  | has h0 h1 h2 h3 h4 => exact same
  | up K h0 h1 h2 h3 h4 h5 h6 =>
    intro i k' y hi hy
    show (updC s.con h0 ⟨k, b, (s.con h0).ow⟩ y).ow ∈ putS os o
    have h7 := same i k' y hi hy
    by_cases e : y = h0
    · rw [e, updC_same]; rw [e] at h7; exact h7
    · rw [updC_other _ _ e]; exact h7
  | upw K h0 w h1 h2 h3 h4 h5 h6 h7 => exact new (i0 := 1) (w := w) (x := ⟨k, b, o⟩) rfl rfl rfl h7
  | hold K m w h1 h2 h3 h4 h5 h6 => exact new (i0 := 0) (w := w) (x := ⟨k, b, o⟩) rfl rfl rfl h6
  | wait K w h1 h2 h3 h4 h5 => exact new (i0 := 2) (w := w) (x := ⟨k, b, o⟩) rfl rfl rfl h5
theorem Dm.quit {n j : Nat} {ks : List ByteArray} {ps : List Int} (h : Dm s os) (ha : Ac s n j) (hp : PassL (leftT s o) (keysL ks) ps s') : Dm s' os := by
  obtain ⟨c, h1, _, _⟩ := ha.w
  have d1 : Dm (leftT s o) os := fun i k w hi hw => h i k w hi (leftT_q hw)
  obtain ⟨_, f2, _⟩ := hp.all ha.g.c.leftT.1 (h1.sub (fun _ _ _ hy => leftT_q hy)) (keysL_nd _)
  exact d1.passed f2
theorem Dm.free {n j : Nat} {fs : List Int} {ks : List ByteArray} {ps : List Int} (h : Dm s os) (ha : Ac s n j) (hp : PassL (goneL s fs) (keysL ks) ps s') : Dm s' os := by
  obtain ⟨c, h1, _, _⟩ := ha.w
  obtain ⟨g1, _, g3, _, g5, _⟩ := goneL_all (os := fs) ha.g.c
  have d1 : Dm (goneL s fs) os := fun i k w hi hw => by rw [g3]; exact h i k w hi (g5 i k w hw)
  obtain ⟨_, f2, _⟩ := hp.all g1 (h1.sub g5) (keysL_nd _)
  exact d1.passed f2
/-- Who is freed is gone. -/
theorem Dm.freed {n j : Nat} {ks : List ByteArray} {ps : List Int} (h : Dm s (o :: os)) (ha : Ac s n j) (hp : PassL (goneL s [o]) (keysL ks) ps s') : Dm s' os := by
  obtain ⟨c, h1, _, _⟩ := ha.w
  obtain ⟨g1, _, g3, _, g5, _⟩ := goneL_all (os := [o]) ha.g.c
  have d1 : Dm (goneL s [o]) os := fun i k w hi hw => by
    rw [g3]
    have e : goneL s [o] = goneT s o := rfl
    rw [e] at hw
    obtain ⟨h2, h3⟩ := goneT_sub hw
    exact (List.mem_cons.1 (h i k w hi h2)).resolve_left (h3 hi)
  obtain ⟨_, f2, _⟩ := hp.all g1 (h1.sub g5) (keysL_nd _)
  exact d1.passed f2
/-- Where nobody is left nobody waits. -/
theorem Dm.none_waits (h : Dm s []) (hc : LkC s) (k : ByteArray) : ¬ waited s k := fun ⟨o, w, hw, _⟩ => by
  obtain ⟨_, i, hi, hq⟩ := hc.ok.w1 o w hw
  exact absurd (h i _ w (lt3 hi) hq) (by simp)
theorem row_mem {l : List Cl} {ks : List ByteArray} (hp : l.Perm (ks.map (clm s o))) (hk : ∀ k, k ∈ ks ↔ s.hd o k ≠ none) {z : Cl} (hz : z ∈ l) : ∃ w, s.hd o z.1 = some w ∧ z.2 = (s.con w).wr := by
  obtain ⟨k, h1, rfl⟩ := List.mem_map.1 (hp.mem_iff.1 hz)
  obtain ⟨w, hw⟩ := Option.ne_none_iff_exists'.1 ((hk k).1 h1)
  rw [clm_k]
  refine ⟨w, hw, ?_⟩
  unfold clm; rw [hw]
theorem mem_row {l : List Cl} {ks : List ByteArray} (hp : l.Perm (ks.map (clm s o))) (hk : ∀ k, k ∈ ks ↔ s.hd o k ≠ none) (h : s.hd o k ≠ none) : ∃ z, z ∈ l ∧ z.1 = k :=
  ⟨clm s o k, hp.mem_iff.2 (List.mem_map.2 ⟨k, (hk k).2 h, rfl⟩), clm_k s o k⟩
/-- Two that hold one key read it. -/
theorem rows_safe (hc : LkC s) {oa ob : Int} (hne : oa ≠ ob) {lx ly : List Cl} {kx ky : List ByteArray} (px : lx.Perm (kx.map (clm s oa))) (hx : ∀ k, k ∈ kx ↔ s.hd oa k ≠ none) (py : ly.Perm (ky.map (clm s ob))) (hy : ∀ k, k ∈ ky ↔ s.hd ob k ≠ none) {x y : Cl} (mx : x ∈ lx) (my : y ∈ ly) (e : x.1 = y.1) : x.2 = false ∧ y.2 = false := by
  obtain ⟨w1, a1, a2⟩ := row_mem px hx mx
  obtain ⟨w2, b1, b2⟩ := row_mem py hy my
  rw [← e] at b1
  obtain ⟨m1, o1⟩ := hc.ok.h1 _ _ _ a1
  obtain ⟨m2, o2⟩ := hc.ok.h1 _ _ _ b1
  have hw : w1 ≠ w2 := fun c => hne (by rw [← o1, ← o2, c])
  exact ⟨a2.trans (hc.ok.cp _ _ _ m1 m2 hw), b2.trans (hc.ok.cp _ _ _ m2 m1 (fun c => hw c.symm))⟩
/-- Who waits, waits for a key that somebody holds. -/
theorem waits_held {B : Nat} {W : World} {T ml mh mw n : Nat} (t : LkAt B W T ml mh mw n s) (hg : Good s) (hd : Dm s os) {w : Nat} (hw : s.wt o = some w) : ∃ o', o' ∈ os ∧ s.hd o' (s.con w).k ≠ none := by
  obtain ⟨_, i, hi, hq⟩ := hg.c.ok.w1 o w hw
  obtain ⟨K, hK⟩ := t.lk_some hq
  have h0 := (hg.st (s.con w).k).l (by rw [hK]; simp)
  cases e : s.q 0 (s.con w).k with
  | nil => exact absurd e h0
  | cons y r =>
    have hy : y ∈ s.q 0 (s.con w).k := by rw [e]; exact List.mem_cons_self ..
    exact ⟨(s.con y).ow, hd 0 _ y (by decide) hy, by rw [hg.c.ok.h2 _ y hy]; simp⟩
theorem up_ne {l : List Int} (h : l.Pairwise (· < ·)) {a b : Nat} (ha : a < l.length) (hb : b < l.length) (hab : a ≠ b) : l.getD a 0 ≠ l.getD b 0 := by
  rw [List.getD_eq_getElem?_getD, List.getD_eq_getElem?_getD, List.getElem?_eq_getElem ha, List.getElem?_eq_getElem hb]
  show l[a] ≠ l[b]
  have h2 := List.pairwise_iff_getElem.1 h
  rcases Nat.lt_or_gt_of_ne hab with c | c
  · have := h2 a b ha hb c; omega
  · have := h2 b a hb ha c; omega
end
/-- What an owner waits for, and whether it does. -/
theorem waits_u {B : Nat} {W : World} {T ml mh mw n : Nat} {s : Lk} {o : Int} (h : LkAt B W T ml mh mw n s) (hc : LkC s) (hwf : (Lit.int .i64 o).wf = true) :
    Calls Try.prog 17 #[.pointer (some ⟨T, 0, none⟩), .int .i64 o] W fun e W' => ∃ ck cb bw, e = .returned (.tuple #[.agg #[.string ck, .bool cb], .bool bw]) ∧ (bw = true → ∃ w, s.wt o = some w ∧ (s.con w).k = ck) ∧ Below W.heap.size W W' := by
  cases hw : s.wt o with
  | none => exact (waits_no h hwf hw).mono fun e W' q => ⟨_, _, false, q.1, (fun c => by cases c), q.2⟩
  | some w =>
    obtain ⟨_, i, hi, hq⟩ := hc.ok.w1 o w hw
    exact (waits_yes h hwf hw (h.wc i _ w (lt3 hi) hq)).mono fun e W' q => ⟨_, _, true, q.1, fun _ => ⟨w, rfl, rfl⟩, q.2⟩
theorem RowCl.cells {W : World} {B : Nat} {v : Value} {l : List Cl} (h : RowCl W B v l) : ∃ a c, v = .slice a l.length c ∧ ∀ i (hi : i < l.length), ∃ g, a = some ⟨g, 0, none⟩ ∧ v.ownBlock = some g ∧ ∀ X : World, X.heap[g]? = W.heap[g]? → X.cell? ⟨g, i * 2, none⟩ = some (.string l[i].1) ∧ X.cell? ⟨g, i * 2 + 1, none⟩ = some (.bool l[i].2) := by
  rcases h.2 with ⟨hv, hn⟩ | ⟨g, cap, cur, hv, _⟩
  · exact ⟨none, 0, by rw [hv, hn], fun i hi => by omega⟩
  · refine ⟨some ⟨g, 0, none⟩, cap, hv, fun i hi => ⟨g, rfl, by rw [hv]; rfl, fun X hX => ?_⟩⟩
    have h' : W.ownsRow B 40 2 (.slice (some ⟨g, 0, none⟩) l.length cap) l.length (flatC l) := hv ▸ h
    have e1 := flatC_get l (i * 2) (by omega)
    have e2 := flatC_get l (i * 2 + 1) (by omega)
    rw [show i * 2 / 2 = i by omega, show i * 2 % 2 = 0 by omega] at e1
    rw [show (i * 2 + 1) / 2 = i by omega, show (i * 2 + 1) % 2 = 1 by omega] at e2
    rw [World.cell?_of_block (a := ⟨g, i * 2, none⟩) hX, World.cell?_of_block (a := ⟨g, i * 2 + 1, none⟩) hX, World.ownsRow.cellAt h' _ (by omega), World.ownsRow.cellAt h' _ (by omega), e1, e2]
    have e3 : l[i]! = l[i] := getElem!_pos l i hi
    rw [e3]
    exact ⟨rfl, rfl⟩
end Go.Proofs.Ytjojempjmpaaaaa
