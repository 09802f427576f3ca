/-
  THE EMPTY SET: List and From; sets of any numbers: List, From; With, Has, Add and Drop as the law meets them.
-/
import Derived.Test.YtjpllcdjiagjlaaSetActs
import Derived.Test.YtjpllcdjiagjlaaNumsWake
namespace Go.Proofs.Ytjpllcdjiagjlaa
open Go.RowKit
set_option maxHeartbeats 1000000 in
theorem concat_none (a : Option Addr) (C : Nat) (w : World) :
    Calls Try.prog 19 #[.slice a 0 C] w (ListPost w []) := by
  have HG := Lib.hid (grow_nil 0 w (by omega))
  rw [show ((0 : Nat) : Int) = 0 from rfl] at HG
  go_enter Try.func19, Try.ntmps19
  go_wp2
  go_loop [3, 11] (fun x i => i = .int .i64 0 ∧ x = .int .i64 0) (fun _ _ => 0)
  case atStart => exact ⟨rfl, rfl⟩
  case round =>
    obtain ⟨rfl, rfl⟩ := hrel
    go_wp2_with fail
    refine HG.out.mono ?_
    rintro e w1 ⟨a', c, rfl, hown, hb1⟩
    have HO1 := Lib.hid hown; clear hown
    go_wp2
    go_loopw [6, 27] (fun v i wr => i = .int .i64 0 ∧ v = .slice a' 0 c ∧ wr = w1) (fun _ _ _ => 0)
    case atStart => exact ⟨rfl, rfl, rfl⟩
    case round =>
      obtain ⟨rfl, rfl, rfl⟩ := hrel
      go_wp2
      go_ret
      exact ⟨_, rfl, HO1.out, hb1⟩
theorem no_blks {bl : List Blk} (hg : Good bl) (h : flat bl = []) : bl = [] := by
  rcases bl with _ | ⟨b, t⟩
  · rfl
  · have := (hg.ne b (by simp)).1
    rw [flat_cons] at h
    have h2 := List.append_eq_nil_iff.1 h
    rw [h2.1] at this
    simp at this
theorem list_none (S : Nat) (B : Nat → Prop) (w : World) (h : SetOk w B S []) :
    Calls Try.prog 10 #[.pointer (some ⟨S, 0, none⟩)] w (ListPost w []) := by
  obtain ⟨bl, his, hg, hf⟩ := h
  obtain rfl := no_blks hg hf
  obtain ⟨v, a, C, rfl, hs0, _⟩ := his.empty_cells
  have HC := Lib.hid (concat_none a C w)
  clear his hg hf
  go_enter Try.func10, Try.ntmps10
  go_wp2_with fail
  refine HC.out.mono ?_
  rintro e w1 ⟨v, rfl, hown, hb⟩
  go_wp2
  go_ret
  exact ⟨v, rfl, hown, hb⟩
theorem list_all (S : Nat) (B : Nat → Prop) (l : List Int) (w : World) (h : SetOk w B S l) :
    Calls Try.prog 10 #[.pointer (some ⟨S, 0, none⟩)] w (ListPost w l) := by
  by_cases h0 : l = []
  · subst h0; exact list_none S B w h
  · exact list_ok S B l w h h0
theorem from_nil (S : Nat) (B : Nat → Prop) (n : Int) (w : World) (h : SetOk w B S []) :
    Calls Try.prog 13 #[.pointer (some ⟨S, 0, none⟩), .int .i64 n] w (ListPost w []) := by
  obtain ⟨bl, his, hg, hf⟩ := h
  obtain rfl := no_blks hg hf
  have HF := Lib.hid (find_none S B n w his hg.ok)
  have HS := Lib.hid his
  clear his hg hf
  go_enter Try.func13, Try.ntmps13
  go_wp2_with fail
  refine HF.out.mono ?_
  rintro e w1 ⟨rfl, hb1⟩
  obtain ⟨v, a, C, rfl, hs0, _⟩ := (HS.out.below hb1).empty_cells
  go_wp2
  go_ret
  exact ⟨_, rfl, World.ownsRow_nil _ _ _ _, hb1⟩
theorem from_all (S : Nat) (B : Nat → Prop) (n : Int) (l : List Int) (w : World) (h : SetOk w B S l) :
    Calls Try.prog 13 #[.pointer (some ⟨S, 0, none⟩), .int .i64 n] w (ListPost w (fromS l n)) := by
  by_cases h0 : l = []
  · subst h0; exact from_nil S B n w h
  · exact from_any S B n l w h h0
theorem ints_lt {w : World} {a : Option Addr} {l : List Int} (h : IntsAt w a l) (h0 : 0 < l.length) (b off : Nat) (e : a = some ⟨b, off, none⟩) : b < w.heap.size := by
  obtain ⟨b2, off2, e2, hc⟩ := h.cell h0
  rw [e] at e2
  injection e2 with e2
  injection e2 with e2 _ _
  rw [e2]
  exact cell_lt hc
/-! ### which blocks are a set's own -/
theorem SetOk.weak {w : World} {B B' : Nat → Prop} {S : Nat} {l : List Int} (h : SetOk w B S l) (hk : ∀ k, k < w.heap.size → B' k → B k) : SetOk w B' S l := by
  obtain ⟨bl, his, hg, hf⟩ := h
  obtain ⟨v, n, h1, h2, h3, h4, h5⟩ := his.top
  refine ⟨bl, ⟨⟨v, n, h1, h2, h3, h4, fun g hgm hB => h5 g hgm (hk g ?_ hB)⟩, fun hB => his.base (hk S (heap_lt h1) hB), his.rows⟩, hg, hf⟩
  rcases List.mem_cons.1 hgm with rfl | hgm
  · exact heap_lt h1
  · rcases List.mem_append.1 hgm with hgm | hgm
    · have : v.ownBlock = some g := by simpa using hgm
      exact (h2.lt g this).2
    · obtain ⟨b, hb, rfl⟩ := List.mem_map.1 hgm
      obtain ⟨c, _, hc, _⟩ := own_block (his.rows b hb)
      exact heap_lt hc
theorem owns_stay {w w' : World} {R : Nat → Prop} {B : Nat} {T : TypeId} {v : Value} {n : Nat} {xs : List Value} (h : w.ownsRow B T 1 v n xs) (hr : ∀ r, v.ownBlock = some r → R r) (hs : Stay R w w') : w'.ownsRow B T 1 v n xs := by
  obtain ⟨h1, h2⟩ := h
  refine ⟨h1, ?_⟩
  rcases h2 with h2 | ⟨g, cap, cur, hv, hg, hc, hn, hm, hss, ht⟩
  · exact .inl h2
  · refine .inr ⟨g, cap, cur, hv, hg, ?_, hn, hm, hss, ht⟩
    rw [hs.block g (hr g (by rw [hv]; rfl))]; exact hc
/-- The law's state: a set of L0, the law's own row of L; B: what the set's own blocks are none of. -/
structure NsW (w wr : World) (S : Nat) (B : Nat → Prop) (L0 : List Int) (v : Value) (L : List Int) : Prop where
  set : SetOk wr B S L0
  bd : Bd B wr.heap.size
  lo : ∀ k, k < w.heap.size → B k
  row : wr.ownsRow w.heap.size 3 1 v L.length (ints L)
  rowB : ∀ r, v.ownBlock = some r → B r
  bw : Below w.heap.size w wr
def Ns (w wr : World) (S : Nat) (L0 : List Int) (v : Value) (L : List Int) : Prop := ∃ B, NsW w wr S B L0 v L
section
variable {w wr X : World} {S : Nat} {L0 L : List Int} {v : Value}
theorem Ns.below (h : Ns w wr S L0 v L) (hb : Below wr.heap.size wr X) : Ns w X S L0 v L := by
  obtain ⟨B, h⟩ := h
  exact ⟨B, h.set.below hb, h.bd.mono hb.size, h.lo, owns_below h.row hb, h.rowB, h.bw.trans (hb.mono h.bw.size)⟩
theorem Ns.bw (h : Ns w wr S L0 v L) : Below w.heap.size w wr := by obtain ⟨B, h⟩ := h; exact h.bw
theorem Ns.at (h : Ns w wr S L0 v L) : ∃ a c, v = .slice a L.length c ∧ IntsAt wr a L := by obtain ⟨B, h⟩ := h; exact ints_of_owns h.row
theorem Ns.rises (h : Ns w wr S L0 v L) : L0.Pairwise (· < ·) := by obtain ⟨B, h⟩ := h; exact h.set.cells.2.2.1
/-- Another row of the law's own. -/
theorem Ns.with (h : Ns w wr S L0 v L) {v' : Value} {L' : List Int} (hr : X.ownsRow wr.heap.size 3 1 v' L'.length (ints L')) (hb : Below wr.heap.size wr X) : Ns w X S L0 v' L' := by
  obtain ⟨B, h⟩ := h
  refine ⟨fun k => B k ∨ (wr.heap.size ≤ k ∧ k < X.heap.size), (h.set.weak fun k hk hB => ?_).below hb, fun k hk => ?_, fun k hk => .inl (h.lo k hk), own_mono hr h.bw.size, fun r e => .inr (hr.lt r e), h.bw.trans (hb.mono h.bw.size)⟩
  · rcases hB with hB | hB
    · exact hB
    · omega
  · rcases hk with hk | hk
    · exact Nat.lt_of_lt_of_le (h.bd k hk) hb.size
    · exact hk.2
theorem Ns.turn {B : Nat → Prop} {L1 : List Int} (h : NsW w wr S B L0 v L) (hs : SetOk X B S L1) (hb : Stay B wr X) : Ns w X S L1 v L :=
  ⟨B, hs, h.bd.mono hb.size, h.lo, owns_stay h.row h.rowB hb, h.rowB, h.bw.trans ⟨hb.os, hb.tape, hb.output, hb.size, fun k hk => hb.block k (h.lo k hk)⟩⟩
theorem ns_list (h : Ns w wr S L0 v L) : Calls Try.prog 10 #[.pointer (some ⟨S, 0, none⟩)] wr (ListPost wr L0) := by obtain ⟨B, h⟩ := h; exact list_all S B L0 wr h.set
theorem ns_len (h : Ns w wr S L0 v L) : Calls Try.prog 11 #[.pointer (some ⟨S, 0, none⟩)] wr fun e w' => e = .returned (.int .i64 L0.length) ∧ wr = w' := by obtain ⟨B, h⟩ := h; exact len_any S B L0 wr h.set
theorem ns_from (h : Ns w wr S L0 v L) (n : Int) : Calls Try.prog 13 #[.pointer (some ⟨S, 0, none⟩), .int .i64 n] wr (ListPost wr (fromS L0 n)) := by obtain ⟨B, h⟩ := h; exact from_all S B n L0 wr h.set
theorem ns_has (h : Ns w wr S L0 v L) (a : Option Addr) (ks : List Int) (cap : Nat) (hk : ks.length ≤ 100000) (ha : IntsAt wr a ks) :
    Calls Try.prog 12 #[.pointer (some ⟨S, 0, none⟩), .slice a ks.length cap] wr fun e w' => e = .returned (.bool (ks.all (L0.contains ·))) ∧ Below wr.heap.size wr w' := by obtain ⟨B, h⟩ := h; exact has_any S B a ks cap L0 wr h.set hk ha
/-- What Ends answers. -/
def endsV (L : List Int) : Value := .tuple #[.int .i64 (L.getD 0 0), .int .i64 (L.getD (L.length - 1) 0), .bool (decide (0 < L.length))]
theorem ns_ends (h : Ns w wr S L0 v L) : Calls Try.prog 8 #[.pointer (some ⟨S, 0, none⟩)] wr fun e w' => e = .returned (endsV L0) ∧ Below wr.heap.size wr w' := by
  obtain ⟨B, h⟩ := h
  by_cases h0 : 0 < L0.length
  · have := ends_some S B L0 wr h.set h0
    unfold endsV
    rw [decide_eq_true h0]; exact this
  · have hn : L0 = [] := List.length_eq_zero_iff.1 (by omega)
    have hs := h.set
    rw [hn] at hs ⊢
    exact ends_none S B wr hs
theorem ns_add (h : Ns w wr S L0 v L) (a : Option Addr) (ks : List Int) (cap : Nat) (hl : L0.length + ks.length ≤ 99999) (ha : IntsAt w a ks) :
    Calls Try.prog 14 #[.pointer (some ⟨S, 0, none⟩), .slice a ks.length cap] wr fun e w' => e = .returned (.int .i64 ((putAll L0 ks).length - L0.length : Int)) ∧ Ns w w' S (putAll L0 ks) v L := by
  obtain ⟨B, h⟩ := h
  refine (Add_any 99999 adds_all S B a ks cap L0 wr h.set h.bd hl (by omega) (ha.below h.bw) (fun h0 b off e => h.lo b (ints_lt ha h0 b off e))).mono ?_
  rintro e w' ⟨rfl, hs, hb⟩
  exact ⟨rfl, Ns.turn h hs hb⟩
theorem ns_drop (h : Ns w wr S L0 v L) (a : Option Addr) (ks : List Int) (cap : Nat) (hk : ks.length ≤ 100000) (ha : IntsAt w a ks) :
    Calls Try.prog 15 #[.pointer (some ⟨S, 0, none⟩), .slice a ks.length cap] wr fun e w' => e = .returned (.int .i64 (L0.length - (delAll L0 ks).length : Int)) ∧ Ns w w' S (delAll L0 ks) v L := by
  obtain ⟨B, h⟩ := h
  refine (Drop_any S B a ks cap L0 wr h.set h.bd hk (ha.below h.bw) (fun h0 b off e => h.lo b (ints_lt ha h0 b off e))).mono ?_
  rintro e w' ⟨rfl, hs, hb⟩
  exact ⟨rfl, Ns.turn h hs hb⟩
theorem ns_with (h : Ns w wr S L0 v L) (a : Option Addr) (c : Nat) (_hv : v = .slice a L.length c) (ha : IntsAt wr a L) (n : Int) (isIn : Bool) (hl : L.length ≤ 100000) :
    Calls Try.prog 6 #[.slice a L.length c, .int .i64 n, .bool isIn] wr fun e w' => ∃ v', e = .returned v' ∧ Ns w w' S L0 v' (withL L n isIn) := by
  refine (refWith_any n isIn a L c wr hl ha).mono ?_
  rintro e w' ⟨v', rfl, hr, hb⟩
  exact ⟨v', rfl, h.with hr hb⟩
theorem ns_new (a : Option Addr) (ks : List Int) (cap : Nat) (w w1 : World) (hb : Below w.heap.size w w1) (hk : ks.length ≤ 99999) (ha : IntsAt w a ks) :
    Calls Try.prog 5 #[.slice a ks.length cap] w1 fun e w' => ∃ S, e = .returned (.pointer (some ⟨S, 0, none⟩)) ∧ Ns w w' S (putAll [] ks) (.slice none 0 0) [] := by
  refine (of_any 99999 adds_all a ks cap w1 hk (by omega) (ha.below hb) (fun h0 b off e => Nat.lt_of_lt_of_le (ints_lt ha h0 b off e) hb.size)).mono ?_
  rintro e w' ⟨S, rfl, hs, hb2⟩
  exact ⟨S, rfl, _, hs, fun k hk => Nat.lt_of_lt_of_le hk hb2.size, fun k hk => Nat.lt_of_lt_of_le hk hb.size, World.ownsRow_nil _ _ _ _, (fun r e => by cases e), hb.trans (hb2.mono hb.size)⟩
end
/-! ### what the law's loops reckon -/
def nowK (l ks : List Int) (on : Bool) : List Int := if on then putAll l ks else delAll l ks
def cntK (l ks : List Int) (on : Bool) : Int := if on then (putAll l ks).length - l.length else l.length - (delAll l ks).length
theorem delS_rise {l : List Int} (h : l.Pairwise (· < ·)) (n : Int) : (delS l n).Pairwise (· < ·) := h.sublist (delS_sub l n)
theorem nowK_rise {l : List Int} (h : l.Pairwise (· < ·)) (ks : List Int) (on : Bool) : (nowK l ks on).Pairwise (· < ·) := by
  unfold nowK
  cases on with
  | true =>
    show (putAll l ks).Pairwise _
    unfold putAll
    induction ks generalizing l with
    | nil => exact h
    | cons k ks ih => exact ih (putS_rise h k)
  | false =>
    show (delAll l ks).Pairwise _
    unfold delAll
    induction ks generalizing l with
    | nil => exact h
    | cons k ks ih => exact ih (delS_rise h k)
theorem nowK_take {l : List Int} (h : l.Pairwise (· < ·)) (ks : List Int) (on : Bool) (k : Nat) (hk : k < ks.length) : nowK l (ks.take (k + 1)) on = withL (nowK l (ks.take k) on) (ks.getD k 0) on := by
  have hr := nowK_rise h (ks.take k) on
  cases on with
  | true => rw [withL_put hr]; exact putAll_take l ks k hk
  | false => rw [withL_del]; exact delAll_take l ks k hk
theorem split3 {l : List Int} (h : l.Pairwise (· < ·)) (n : Int) : l.length = (l.filter (· < n)).length + (l.filter (n < ·)).length + (if l.contains n then 1 else 0) := by
  induction l with
  | nil => rfl
  | cons a l ih =>
    rw [List.pairwise_cons] at h
    have hi := ih h.2
    rw [List.length_cons]
    by_cases h1 : a < n
    · rw [List.filter_cons_of_pos (by simpa using h1), List.filter_cons_of_neg (by simp; omega), List.length_cons]
      have : (a :: l).contains n = l.contains n := by
        rw [List.contains_cons]
        have : (n == a) = false := by rw [beq_eq_false_iff_ne]; omega
        rw [this, Bool.false_or]
      rw [this]; omega
    · by_cases h2 : a = n
      · subst h2
        have hn : l.contains a = false := by
          cases hc : l.contains a with
          | false => rfl
          | true => have := h.1 a (List.contains_iff_mem.1 hc); omega
        rw [hn] at hi
        rw [List.filter_cons_of_neg (by simp), List.filter_cons_of_neg (by simp)]
        have : (a :: l).contains a = true := by rw [List.contains_iff_mem]; simp
        rw [this, if_pos rfl]
        rw [if_neg (by decide)] at hi
        omega
      · rw [List.filter_cons_of_neg (by simp; omega), List.filter_cons_of_pos (by simp; omega), List.length_cons]
        have : (a :: l).contains n = l.contains n := by
          rw [List.contains_cons]
          have : (n == a) = false := by rw [beq_eq_false_iff_ne]; omega
          rw [this, Bool.false_or]
        rw [this]; omega
theorem putS_count {l : List Int} (h : l.Pairwise (· < ·)) (n : Int) : ((putS l n).length : Int) = l.length + (if l.contains n then 0 else 1) := by
  have h3 := split3 h n
  have : (putS l n).length = (l.filter (· < n)).length + ((l.filter (n < ·)).length + 1) := by unfold putS; rw [List.length_append, List.length_cons]
  rw [this]
  split at h3 <;> rename_i hc
  · rw [if_pos hc]; omega
  · rw [if_neg hc]; omega
theorem delS_count {l : List Int} (h : l.Pairwise (· < ·)) (n : Int) : ((delS l n).length : Int) = l.length - (if l.contains n then 1 else 0) := by
  have h3 := split3 h n
  have hd : (delS l n).length = (l.filter (· < n)).length + (l.filter (n < ·)).length := by
    clear h3
    unfold delS
    induction l with
    | nil => rfl
    | cons a l ih =>
      have hi := ih (List.pairwise_cons.1 h).2
      by_cases h1 : a < n
      · rw [List.filter_cons_of_pos (by simp; omega), List.filter_cons_of_pos (by simpa using h1), List.filter_cons_of_neg (by simp; omega), List.length_cons, List.length_cons]; omega
      · by_cases h2 : a = n
        · rw [List.filter_cons_of_neg (by simp [h2]), List.filter_cons_of_neg (by simp; omega), List.filter_cons_of_neg (by simp; omega)]; exact hi
        · rw [List.filter_cons_of_pos (by simp; omega), List.filter_cons_of_neg (by simp; omega), List.filter_cons_of_pos (by simp; omega), List.length_cons, List.length_cons]; omega
  rw [hd]
  split at h3 <;> rename_i hc
  · rw [if_pos hc]; omega
  · rw [if_neg hc]; omega
theorem cntK_take {l : List Int} (h : l.Pairwise (· < ·)) (ks : List Int) (on : Bool) (k : Nat) (hk : k < ks.length) :
    cntK l (ks.take (k + 1)) on = cntK l (ks.take k) on + (if ((nowK l (ks.take k) on).contains (ks.getD k 0) != on) = true then 1 else 0) := by
  have hr := nowK_rise h (ks.take k) on
  cases on with
  | true =>
    have e : putAll l (ks.take (k + 1)) = putS (putAll l (ks.take k)) (ks.getD k 0) := putAll_take l ks k hk
    have hr : (putAll l (ks.take k)).Pairwise (· < ·) := hr
    have hc := putS_count hr (ks.getD k 0)
    show ((putAll l (ks.take (k + 1))).length : Int) - l.length = (putAll l (ks.take k)).length - l.length + (if ((putAll l (ks.take k)).contains (ks.getD k 0) != true) = true then 1 else 0)
    rw [e, hc]
    cases (putAll l (ks.take k)).contains (ks.getD k 0) <;> simp <;> omega
  | false =>
    have e : delAll l (ks.take (k + 1)) = delS (delAll l (ks.take k)) (ks.getD k 0) := delAll_take l ks k hk
    have hr : (delAll l (ks.take k)).Pairwise (· < ·) := hr
    have hc := delS_count hr (ks.getD k 0)
    show (l.length : Int) - (delAll l (ks.take (k + 1))).length = l.length - (delAll l (ks.take k)).length + (if ((delAll l (ks.take k)).contains (ks.getD k 0) != false) = true then 1 else 0)
    rw [e, hc]
    cases (delAll l (ks.take k)).contains (ks.getD k 0) <;> simp <;> omega
theorem cntK_zero (l : List Int) (ks : List Int) (on : Bool) : cntK l (ks.take 0) on = 0 := by cases on <;> simp [cntK, putAll, delAll]
theorem nowK_zero (l : List Int) (ks : List Int) (on : Bool) : nowK l (ks.take 0) on = l := by cases on <;> simp [nowK, putAll, delAll]
theorem nowK_len (l ks : List Int) (on : Bool) : (nowK l ks on).length ≤ l.length + ks.length := by
  cases on with
  | true => exact putAll_len l ks
  | false => exact Nat.le_trans (delAll_len l ks) (Nat.le_add_right _ _)
theorem fromS_take (l : List Int) (n : Int) (k : Nat) (hk : k < l.length) : fromS (l.take (k + 1)) n = fromS (l.take k) n ++ (if n ≤ l.getD k 0 then [l.getD k 0] else []) := by
  rw [take_one l k hk]
  unfold fromS
  rw [List.filter_append]
  congr 1
  by_cases h : n ≤ l.getD k 0
  · rw [if_pos h, List.filter_cons_of_pos (by simpa using h)]; rfl
  · rw [if_neg h, List.filter_cons_of_neg (by simpa using h)]; rfl
end Go.Proofs.Ytjpllcdjiagjlaa
