/-
  page.Set OF ANY PAGE: one contract for all its answers, by a pure function; what a key that is set, and set as it was, leaves.
-/
import Derived.Test.YtgkpbchpjgkblaaDoorPgSetOk2
import Derived.Test.YtgkpbchpjgkblaaDoorPgSetOk3
namespace Go.Proofs.YtgkpbchpjgkblaaDoor
open Go.RowKit
/-- The cells with a key's value put, or taken away, where keys rise. -/
def insL (key : ByteArray) (h : Bool) (s : ByteArray) : List (ByteArray × ByteArray) := if h = true then [(key, s)] else []
def ptL : List (ByteArray × ByteArray) → ByteArray → Bool → ByteArray → List (ByteArray × ByteArray)
  | [], key, h, s => insL key h s
  | c :: l, key, h, s => if c.1 = key then insL key h s ++ l else if upC key c.1 = true then insL key h s ++ c :: l else c :: ptL l key h s
def UpL (l : List (ByteArray × ByteArray)) : Prop := l.Pairwise (fun a b => upC a.1 b.1 = true)
theorem upL_of {l : List (ByteArray × ByteArray)} (h : RiseL l) : UpL l := by
  unfold UpL
  rw [List.pairwise_iff_getElem]
  intro i j hi hj hij
  have := h i j hij hj
  simpa only [List.getD_eq_getElem?_getD, List.getElem?_eq_getElem hi, List.getElem?_eq_getElem hj, Option.getD_some] using this
theorem upC_ne {a b : ByteArray} (h : upC a b = true) : a ≠ b := fun e => by subst e; rw [upC_irrefl] at h; cases h
theorem upC_asymm {a b : ByteArray} (h : upC a b = true) : upC b a = false := by
  cases h2 : upC b a
  · rfl
  · have := upC_trans h h2; rw [upC_irrefl] at this; cases this
theorem upC_other {a b : ByteArray} (h : a ≠ b) (h2 : upC b a ≠ true) : upC a b = true := by
  have h3 := upC_tri a b
  rw [ba_beqL, decide_eq_false h, Bool.or_false] at h3
  rw [h3]
  simpa using h2
/-- No key of the rest is this one, where all are above it. -/
theorem get_above {l : List (ByteArray × ByteArray)} {key : ByteArray} (h : ∀ x ∈ l, upC key x.1 = true) : clGet l key = (false, ⟨#[]⟩) := by
  induction l with
  | nil => rfl
  | cons c l ih =>
    have h1 := upC_ne (h c (List.mem_cons_self ..))
    rw [clGet, if_neg (fun e => h1 e.symm)]
    exact ih (fun x hx => h x (List.mem_cons_of_mem _ hx))
theorem put_above {l : List (ByteArray × ByteArray)} {key : ByteArray} {h : Bool} {s : ByteArray} (ha : ∀ x ∈ l, upC key x.1 = true) : ptL l key h s = insL key h s ++ l := by
  cases l with
  | nil => simp [ptL]
  | cons c l =>
    have h0 := ha c (List.mem_cons_self ..)
    have h1 := upC_ne h0
    rw [ptL, if_neg (fun e => h1 e.symm), if_pos h0]
theorem ptL_back {l : List (ByteArray × ByteArray)} (hu : UpL l) (key : ByteArray) (h : Bool) (s : ByteArray) :
    ptL (ptL l key h s) key (clGet l key).1 (clGet l key).2 = l := by
  induction l with
  | nil =>
    cases h
    · rfl
    · show ptL [(key, s)] key false ⟨#[]⟩ = []
      rw [ptL, if_pos rfl]; rfl
  | cons c l ih =>
    have hu' := hu
    unfold UpL at hu'
    rw [List.pairwise_cons] at hu'
    obtain ⟨hab, hul⟩ := hu'
    by_cases e : c.1 = key
    · have hab' : ∀ x ∈ l, upC key x.1 = true := fun x hx => by rw [← e]; exact hab x hx
      have hc : (key, c.2) = c := by rw [← e]
      rw [ptL, if_pos e, clGet, if_pos e]
      cases h
      · show ptL ([] ++ l) key true c.2 = _
        rw [List.nil_append, put_above hab']
        show (key, c.2) :: l = _
        rw [hc]
      · show ptL ((key, s) :: l) key true c.2 = _
        rw [ptL, if_pos rfl]
        show (key, c.2) :: l = _
        rw [hc]
    · by_cases e2 : upC key c.1 = true
      · have hab' : ∀ x ∈ c :: l, upC key x.1 = true := fun x hx => by
          rcases List.mem_cons.1 hx with rfl | hx
          · exact e2
          · exact upC_trans e2 (hab x hx)
        rw [put_above hab', get_above hab']
        cases h
        · show ptL ([] ++ c :: l) key false ⟨#[]⟩ = _
          rw [List.nil_append, put_above hab']; rfl
        · show ptL ((key, s) :: c :: l) key false ⟨#[]⟩ = _
          rw [ptL, if_pos rfl]; rfl
      · rw [ptL, if_neg e, if_neg e2, clGet, if_neg e, ptL, if_neg e, if_neg e2, ih hul]
theorem get_ins {l : List (ByteArray × ByteArray)} {key : ByteArray} {h : Bool} {s : ByteArray} (ha : ∀ x ∈ l, upC key x.1 = true) : clGet (insL key h s ++ l) key = (h, if h = true then s else ⟨#[]⟩) := by
  cases h
  · show clGet ([] ++ l) key = _
    rw [List.nil_append, get_above ha]; rfl
  · show clGet ((key, s) :: l) key = _
    rw [clGet, if_pos rfl]; rfl
theorem get_put {l : List (ByteArray × ByteArray)} (hu : UpL l) (key : ByteArray) (h : Bool) (s : ByteArray) : clGet (ptL l key h s) key = (h, if h = true then s else ⟨#[]⟩) := by
  induction l with
  | nil => rw [ptL, ← List.append_nil (insL key h s)]; exact get_ins (fun x hx => by cases hx)
  | cons c l ih =>
    have hu' := hu
    unfold UpL at hu'
    rw [List.pairwise_cons] at hu'
    obtain ⟨hab, hul⟩ := hu'
    by_cases e : c.1 = key
    · rw [ptL, if_pos e]
      exact get_ins (fun x hx => by rw [← e]; exact hab x hx)
    · by_cases e2 : upC key c.1 = true
      · rw [ptL, if_neg e, if_pos e2]
        refine get_ins (fun x hx => ?_)
        rcases List.mem_cons.1 hx with rfl | hx
        · exact e2
        · exact upC_trans e2 (hab x hx)
      · rw [ptL, if_neg e, if_neg e2, clGet, if_neg e]
        exact ih hul
theorem mem_ins {key : ByteArray} {h : Bool} {s : ByteArray} {x : ByteArray × ByteArray} (hx : x ∈ insL key h s) : x = (key, s) ∧ h = true := by
  unfold insL at hx
  cases h
  · simp at hx
  · simp at hx; exact ⟨hx, rfl⟩
theorem mem_put {l : List (ByteArray × ByteArray)} {key : ByteArray} {h : Bool} {s : ByteArray} {x : ByteArray × ByteArray} (hx : x ∈ ptL l key h s) : (x = (key, s) ∧ h = true) ∨ x ∈ l := by
  induction l with
  | nil => exact .inl (mem_ins hx)
  | cons c l ih =>
    rw [ptL] at hx
    split at hx
    · rcases List.mem_append.1 hx with hx | hx
      · exact .inl (mem_ins hx)
      · exact .inr (List.mem_cons_of_mem _ hx)
    · split at hx
      · rcases List.mem_append.1 hx with hx | hx
        · exact .inl (mem_ins hx)
        · exact .inr hx
      · rcases List.mem_cons.1 hx with rfl | hx
        · exact .inr (List.mem_cons_self ..)
        · rcases ih hx with h | h
          · exact .inl h
          · exact .inr (List.mem_cons_of_mem _ h)
theorem put_up {l : List (ByteArray × ByteArray)} (hu : UpL l) (key : ByteArray) (h : Bool) (s : ByteArray) : UpL (ptL l key h s) := by
  induction l with
  | nil =>
    unfold UpL ptL insL
    cases h <;> simp
  | cons c l ih =>
    have hu' := hu
    unfold UpL at hu'
    rw [List.pairwise_cons] at hu'
    obtain ⟨hab, hul⟩ := hu'
    have hi : ∀ r : List (ByteArray × ByteArray), UpL r → (∀ x ∈ r, upC key x.1 = true) → UpL (insL key h s ++ r) := fun r hr hk => by
      cases h
      · exact hr
      · show UpL ((key, s) :: r)
        unfold UpL
        rw [List.pairwise_cons]
        exact ⟨hk, hr⟩
    by_cases e : c.1 = key
    · rw [ptL, if_pos e]
      exact hi l hul (fun x hx => by rw [← e]; exact hab x hx)
    · by_cases e2 : upC key c.1 = true
      · rw [ptL, if_neg e, if_pos e2]
        refine hi _ hu (fun x hx => ?_)
        rcases List.mem_cons.1 hx with rfl | hx
        · exact e2
        · exact upC_trans e2 (hab x hx)
      · rw [ptL, if_neg e, if_neg e2]
        unfold UpL
        rw [List.pairwise_cons]
        refine ⟨fun x hx => ?_, ih hul⟩
        rcases mem_put hx with ⟨rfl, _⟩ | hx
        · exact upC_other e e2
        · exact hab x hx
theorem len_ins (key : ByteArray) (h : Bool) (s : ByteArray) : (insL key h s).length ≤ 1 := by
  unfold insL
  cases h <;> simp
theorem len_put {l : List (ByteArray × ByteArray)} (hu : UpL l) (key : ByteArray) (h : Bool) (s : ByteArray) : (ptL l key h s).length ≤ l.length + 1 ∧ ((clGet l key).1 = true → (ptL l key h s).length ≤ l.length) ∧ (h = false → (ptL l key h s).length ≤ l.length) := by
  induction l with
  | nil =>
    have := len_ins key h s
    refine ⟨by simpa [ptL] using this, fun e => (by cases e), fun e => by subst e; simp [ptL, insL]⟩
  | cons c l ih =>
    have hu' := hu
    unfold UpL at hu'
    rw [List.pairwise_cons] at hu'
    obtain ⟨hab, hul⟩ := hu'
    have ih := ih hul
    have h1 := len_ins key h s
    have h2 : h = false → (insL key h s).length = 0 := fun e => by subst e; rfl
    by_cases e : c.1 = key
    · rw [ptL, if_pos e]
      simp only [List.length_append, List.length_cons]
      exact ⟨by omega, fun _ => by omega, fun _ => by omega⟩
    · by_cases e2 : upC key c.1 = true
      · have hg : clGet (c :: l) key = (false, ⟨#[]⟩) := get_above (fun x hx => by
          rcases List.mem_cons.1 hx with rfl | hx
          · exact e2
          · exact upC_trans e2 (hab x hx))
        rw [hg, ptL, if_neg e, if_pos e2]
        simp only [List.length_append, List.length_cons]
        exact ⟨by omega, fun hh => (by cases hh), fun hh => by have := h2 hh; omega⟩
      · rw [ptL, if_neg e, if_neg e2, clGet, if_neg e]
        simp only [List.length_cons]
        exact ⟨by omega, fun hh => by have := ih.2.1 hh; omega, fun hh => by have := ih.2.2 hh; omega⟩
theorem cellsB_parts {l : List (ByteArray × ByteArray)} (h : cellsB l = true) : UpL l ∧ ∀ x ∈ l, kyOk x.1 = true ∧ x.2.size ≤ 16 := by
  refine ⟨upL_of (rise_of h), fun x hx => ?_⟩
  unfold cellsB at h
  rw [List.all_eq_true] at h
  obtain ⟨k, hk, rfl⟩ := List.getElem_of_mem hx
  have := h k (List.mem_range.2 hk)
  unfold cellB at this
  simp only [List.getD_eq_getElem?_getD, List.getElem?_eq_getElem hk, Option.getD_some, Bool.and_eq_true, decide_eq_true_iff] at this
  exact ⟨this.1.1, this.1.2⟩
theorem cellsB_mk {l : List (ByteArray × ByteArray)} (hu : UpL l) (h : ∀ x ∈ l, kyOk x.1 = true ∧ x.2.size ≤ 16) : cellsB l = true := by
  refine cellsB_yes (fun m hm => ?_)
  unfold cellB
  obtain ⟨h1, h2⟩ := h _ (mem_cl hm)
  rw [h1, decide_eq_true h2, Bool.true_and, Bool.true_and]
  by_cases e : m = 0
  · rw [decide_eq_true e]; rfl
  · rw [decide_eq_false e, Bool.false_or]
    unfold UpL at hu
    rw [List.pairwise_iff_getElem] at hu
    have := hu (m - 1) m (by omega) hm (by omega)
    simpa only [List.getD_eq_getElem?_getD, List.getElem?_eq_getElem hm, List.getElem?_eq_getElem (show m - 1 < l.length by omega), Option.getD_some] using this
theorem pgOk_mk {no gsn : Int} {l : List (ByteArray × ByteArray)} (h1 : 0 ≤ no) (h2 : no < 64) (h3 : 0 ≤ gsn) (h4 : gsn ≤ 4611686018427387903) (h5 : l.length ≤ 8) (h6 : cellsB l = true) : pgOk no gsn l = true := by
  unfold pgOk
  rw [decide_eq_true h1, decide_eq_true h2, decide_eq_true h3, decide_eq_true h4, decide_eq_true h5, h6]; rfl
/-- The place of a key, and what is put there. -/
theorem pos_cons {c : ByteArray × ByteArray} {l : List (ByteArray × ByteArray)} {key : ByteArray} {n : Nat} (h : PosOf (c :: l) key (n + 1)) : PosOf l key n :=
  ⟨by have := h.le; simp at this; omega, fun m hm => h.lo (m + 1) (by omega), fun m h1 h2 => h.hi (m + 1) (by omega) (by simp; omega)⟩
theorem newCl_put {l : List (ByteArray × ByteArray)} {key : ByteArray} {n : Nat} (hp : PosOf l key n) (h : Bool) (s : ByteArray) : newCl l key h s n (foundB l key n) = ptL l key h s := by
  induction l generalizing n with
  | nil =>
    have := hp.le
    simp at this
    subst this
    unfold newCl ptL insL foundB
    simp
  | cons c l ih =>
    cases n with
    | zero =>
      have h0 := hp.hi 0 (Nat.le_refl _) (by simp)
      have h0 : upC c.1 key = false := h0
      have hf : foundB (c :: l) key 0 = decide (c.1 = key) := by
        unfold foundB
        simp
      unfold newCl
      rw [hf, ptL]
      show [] ++ insL key h s ++ _ = _
      rw [List.nil_append]
      by_cases e : c.1 = key
      · rw [decide_eq_true e, if_pos rfl, if_pos e]; rfl
      · rw [decide_eq_false e, if_neg (by decide), if_neg e, if_pos (upC_other (fun x => e x.symm) (by rw [h0]; decide))]; rfl
    | succ n =>
      have h0 := hp.lo 0 (Nat.succ_pos _)
      have h0 : upC c.1 key = true := h0
      have hf : foundB (c :: l) key (n + 1) = foundB l key n := by
        unfold foundB
        simp
      have ih := ih (pos_cons hp)
      rw [hf, ptL, if_neg (upC_ne h0), if_neg (by rw [upC_asymm h0]; decide), ← ih]
      unfold newCl
      cases foundB l key n <;> rfl
theorem found_get {l : List (ByteArray × ByteArray)} {key : ByteArray} {n : Nat} (hu : UpL l) (hp : PosOf l key n) : foundB l key n = (clGet l key).1 := by
  induction l generalizing n with
  | nil =>
    unfold foundB
    simp [clGet]
  | cons c l ih =>
    have hu' := hu
    unfold UpL at hu'
    rw [List.pairwise_cons] at hu'
    obtain ⟨hab, hul⟩ := hu'
    cases n with
    | zero =>
      have h0 : upC c.1 key = false := hp.hi 0 (Nat.le_refl _) (by simp)
      have hf : foundB (c :: l) key 0 = decide (c.1 = key) := by
        unfold foundB
        simp
      rw [hf]
      by_cases e : c.1 = key
      · rw [decide_eq_true e, clGet, if_pos e]
      · rw [decide_eq_false e]
        have e2 := upC_other (fun x => e x.symm) (by rw [h0]; decide)
        rw [get_above (fun x hx => by
          rcases List.mem_cons.1 hx with rfl | hx
          · exact e2
          · exact upC_trans e2 (hab x hx))]
    | succ n =>
      have h0 : upC c.1 key = true := hp.lo 0 (Nat.succ_pos _)
      have hf : foundB (c :: l) key (n + 1) = foundB l key n := by
        unfold foundB
        simp
      rw [hf, clGet, if_neg (upC_ne h0)]
      exact ih hul (pos_cons hp)
/-- What Set answers: the error's number. -/
def setE (no gsn : Int) (l : List (ByteArray × ByteArray)) (key : ByteArray) (h : Bool) (s : ByteArray) (g : Int) : Int :=
  if pgOk no gsn l = false ∨ kyOk key = false ∨ vlOk h s = false ∨ g ≤ gsn ∨ 4611686018427387903 < g then 1 else
  if h = false ∧ (clGet l key).1 = false then 7 else
  if h = true ∧ (clGet l key).1 = false ∧ l.length = 8 then 4 else 0
/-- Set's answer, by its error. -/
def SetAns (no gsn : Int) (l : List (ByteArray × ByteArray)) (key : ByteArray) (h : Bool) (s : ByteArray) (g : Int) (w : World) (e : Ending) (w' : World) : Prop :=
  (setE no gsn l key h s g ≠ 0 ∧ e = .returned (.tuple #[.agg #[.int .i64 0, .int .i64 0, .slice none 0 0], .int .i64 (setE no gsn l key h s g)]) ∧ Below w.heap.size w w') ∨
  (setE no gsn l key h s g = 0 ∧ ∃ a c, e = .returned (.tuple #[.agg #[.int .i64 no, .int .i64 g, .slice a (ptL l key h s).length c], .int .i64 0]) ∧ RowC w' w.heap.size (.slice a (ptL l key h s).length c) (ptL l key h s) ∧ Below w.heap.size w w')
theorem setE_bad {no gsn : Int} {l : List (ByteArray × ByteArray)} {key : ByteArray} {h : Bool} {s : ByteArray} {g : Int} (hb : pgOk no gsn l = false ∨ kyOk key = false ∨ vlOk h s = false ∨ g ≤ gsn ∨ 4611686018427387903 < g) : setE no gsn l key h s g = 1 := by
  unfold setE; rw [if_pos hb]
theorem setE_ok {no gsn : Int} {l : List (ByteArray × ByteArray)} {key : ByteArray} {h : Bool} {s : ByteArray} {g : Int} (he : setE no gsn l key h s g = 0) :
    pgOk no gsn l = true ∧ kyOk key = true ∧ vlOk h s = true ∧ gsn < g ∧ g ≤ 4611686018427387903 ∧ ¬ (h = false ∧ (clGet l key).1 = false) ∧ ¬ (h = true ∧ (clGet l key).1 = false ∧ l.length = 8) := by
  unfold setE at he
  by_cases hb : pgOk no gsn l = false ∨ kyOk key = false ∨ vlOk h s = false ∨ g ≤ gsn ∨ 4611686018427387903 < g
  · rw [if_pos hb] at he; cases he
  · rw [if_neg hb] at he
    have h1 : pgOk no gsn l = true := by
      cases q : pgOk no gsn l
      · exact absurd (.inl q) hb
      · rfl
    have h2 : kyOk key = true := by
      cases q : kyOk key
      · exact absurd (.inr (.inl q)) hb
      · rfl
    have h3 : vlOk h s = true := by
      cases q : vlOk h s
      · exact absurd (.inr (.inr (.inl q))) hb
      · rfl
    have h4 : ¬ g ≤ gsn := fun q => hb (.inr (.inr (.inr (.inl q))))
    have h5 : ¬ 4611686018427387903 < g := fun q => hb (.inr (.inr (.inr (.inr q))))
    by_cases c7 : h = false ∧ (clGet l key).1 = false
    · rw [if_pos c7] at he; cases he
    · rw [if_neg c7] at he
      by_cases c4 : h = true ∧ (clGet l key).1 = false ∧ l.length = 8
      · rw [if_pos c4] at he; cases he
      · exact ⟨h1, h2, h3, by omega, by omega, c7, c4⟩
theorem set_yes_ans {no gsn : Int} {l : List (ByteArray × ByteArray)} {key : ByteArray} {h : Bool} {s : ByteArray} {g : Int} {w : World} {e : Ending} {w' : World} (he : setE no gsn l key h s g = 0) (hy : SetYes no g l key h s w e w') : SetAns no gsn l key h s g w e w' := by
  obtain ⟨n, v, hp, rfl, hr, hb⟩ := hy
  rw [newCl_put hp] at hr
  obtain ⟨a, c, rfl, _⟩ := hr.cls
  exact .inr ⟨he, a, c, rfl, hr, hb⟩
theorem set_any (no gsn : Int) (a : Option Addr) (l : List (ByteArray × ByteArray)) (c : Nat) (key : ByteArray) (h : Bool) (s : ByteArray) (g : Int) (w : World) (hn : l.length ≤ maxLen) (hlc : l.length ≤ c) (hz : a = none → c = 0) (ha : ClsAt w a l) :
    Calls Tryd.prog 15 #[.agg #[.int .i64 no, .int .i64 gsn, .slice a l.length c], .string key, .agg #[.bool h, .string s], .int .i64 g] w (SetAns no gsn l key h s g w) := by
  by_cases hb : pgOk no gsn l = false ∨ kyOk key = false ∨ vlOk h s = false ∨ g ≤ gsn ∨ 4611686018427387903 < g
  · have he := setE_bad (h := h) (s := s) hb
    refine (set_bad no gsn a l c key h s g w hn ha hb).mono ?_
    rintro e w' ⟨rfl, hb⟩
    exact .inl ⟨by rw [he]; decide, by rw [he], hb⟩
  · have h1 : pgOk no gsn l = true := by
      cases q : pgOk no gsn l
      · exact absurd (.inl q) hb
      · rfl
    have h2 : kyOk key = true := by
      cases q : kyOk key
      · exact absurd (.inr (.inl q)) hb
      · rfl
    have h3 : vlOk h s = true := by
      cases q : vlOk h s
      · exact absurd (.inr (.inr (.inl q))) hb
      · rfl
    have h4 : gsn < g := by
      rcases Int.lt_or_le gsn g with q | q
      · exact q
      · exact absurd (.inr (.inr (.inr (.inl q)))) hb
    have h5 : g ≤ 4611686018427387903 := by
      rcases Int.lt_or_le 4611686018427387903 g with q | q
      · exact absurd (.inr (.inr (.inr (.inr q)))) hb
      · exact q
    obtain ⟨hu, _⟩ := cellsB_parts (pgOk_parts h1).2.2.2.2.2
    have hE : setE no gsn l key h s g = if h = false ∧ (clGet l key).1 = false then 7 else if h = true ∧ (clGet l key).1 = false ∧ l.length = 8 then 4 else 0 := by
      unfold setE; rw [if_neg hb]
    cases hf : (clGet l key).1 with
    | true =>
      have hhit : ∀ n, PosOf l key n → foundB l key n = true := fun n hp => by rw [found_get hu hp]; exact hf
      have he : setE no gsn l key h s g = 0 := by rw [hE, hf, if_neg (fun q => by cases q.2), if_neg (fun q => by cases q.2.1)]
      cases h with
      | true => exact (set_tt no gsn a l c key s g w hn hlc hz ha h1 h2 h3 h4 h5 hhit).mono fun e w' hy => set_yes_ans he hy
      | false => exact (set_tf no gsn a l c key s g w hn hlc hz ha h1 h2 h3 h4 h5 hhit).mono fun e w' hy => set_yes_ans he hy
    | false =>
      have hmiss : ∀ n, PosOf l key n → foundB l key n = false := fun n hp => by rw [found_get hu hp]; exact hf
      by_cases hc : h = false ∨ l.length = 8
      · refine (set_miss no gsn a l c key h s g w hn ha h1 h2 h3 h4 h5 hmiss hc).mono ?_
        rintro e w' (⟨rfl, rfl, hb⟩ | ⟨rfl, h8, rfl, hb⟩)
        · have he : setE no gsn l key false s g = 7 := by rw [hE, hf, if_pos ⟨rfl, rfl⟩]
          exact .inl ⟨by rw [he]; decide, by rw [he], hb⟩
        · have he : setE no gsn l key true s g = 4 := by rw [hE, hf, if_neg (fun q => by cases q.1), if_pos ⟨rfl, rfl, h8⟩]
          exact .inl ⟨by rw [he]; decide, by rw [he], hb⟩
      · have hh : h = true := by
          cases h
          · exact absurd (.inl rfl) hc
          · rfl
        subst hh
        have h8 : l.length ≠ 8 := fun q => hc (.inr q)
        have he : setE no gsn l key true s g = 0 := by rw [hE, hf, if_neg (fun q => by cases q.1), if_neg (fun q => h8 q.2.2)]
        exact (set_ft no gsn a l c key s g w hn hlc hz ha h1 h2 h3 h4 h5 hmiss h8).mono fun e w' hy => set_yes_ans he hy
/-- What is put on a right page is right. -/
theorem put_right {no gsn : Int} {l : List (ByteArray × ByteArray)} {key : ByteArray} {h : Bool} {s : ByteArray} {g : Int} (he : setE no gsn l key h s g = 0) : pgOk no g (ptL l key h s) = true := by
  obtain ⟨h1, h2, h3, h4, h5, h6, h7⟩ := setE_ok he
  obtain ⟨p1, p2, p3, p4, p5, p6⟩ := pgOk_parts h1
  obtain ⟨hu, hx⟩ := cellsB_parts p6
  obtain ⟨l1, l2, l3⟩ := len_put hu key h s
  refine pgOk_mk p1 p2 (by omega) h5 ?_ (cellsB_mk (put_up hu key h s) (fun x hm => ?_))
  · cases hf : (clGet l key).1 with
    | true => have := l2 hf; omega
    | false =>
      cases h with
      | false => exact absurd ⟨rfl, hf⟩ h6
      | true =>
        have : l.length ≠ 8 := fun q => h7 ⟨rfl, hf, q⟩
        omega
  · rcases mem_put hm with ⟨rfl, rfl⟩ | hm
    · refine ⟨h2, ?_⟩
      rw [vl_true] at h3
      exact of_decide_eq_true h3
    · exact hx x hm
theorem get_ok {l : List (ByteArray × ByteArray)} {key : ByteArray} (h : ∀ x ∈ l, kyOk x.1 = true ∧ x.2.size ≤ 16) : vlOk (clGet l key).1 (clGet l key).2 = true := by
  induction l with
  | nil =>
    show vlOk false ⟨#[]⟩ = true
    unfold vlOk
    rw [ByteArray.toList_eq]; rfl
  | cons c l ih =>
    rw [clGet]
    split
    · show vlOk true c.2 = true
      rw [vl_true]
      exact decide_eq_true (h c (List.mem_cons_self ..)).2
    · exact ih (fun x hx => h x (List.mem_cons_of_mem _ hx))
theorem vl_false {s : ByteArray} (h : vlOk false s = true) : s = ⟨#[]⟩ := by
  unfold vlOk at h
  simp at h
  rw [ByteArray.toList_eq] at h
  cases s with | mk a =>
  have : a.toList = [] := h
  congr 1
  exact Array.toList_inj.1 this
end Go.Proofs.YtgkpbchpjgkblaaDoor
