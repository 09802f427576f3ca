/-
  WHAT IS NEEDED OF THE DEVICE'S TEXTS, AS FAR AS THIS SEAT HAS ITS FUNCTIONS (put together by wip/only-there.py).
-/
import Derived.Test.YtkemhkmabbladaaGreatDoorTwFmt
import Derived.Test.YtkemhkmabbladaaGreatDoorTwStoreL
namespace Go.Proofs.YtkemhkmabbladaaGreatDoor
open Go.RowKit
/-- What Open answers of a device, and leaves of it. -/
def openM (pages : Nat) (s : Ds) : Int × Ds :=
  match s.pm with
  | .off => (6, s)
  | _ => if allZ (Dv.txt (vw s 0)) = true then (0, s) else
    match takeOf (Dv.txt (vw s 0)) 1 with
    | none => (9, s)
    | some (k, r) => if k < 1 ∨ pages < k ∨ allZ r = false then (9, s) else
      match readOf (txt4 (vw s) 1) with
      | none => (9, s)
      | some (no, _, _) => if no + 1 = k then (er (settleM no (txt4 (vw s) 1) s).1, (settleM no (txt4 (vw s) 1) s).2) else (9, s)
section
variable {w W : World} {D P L M n B T pages : Nat} {s : Ds}
theorem txt_len {l : List UInt8} (h : l.length = 64) : (Dv.txt l).size = 64 := by unfold Dv.txt; simpa [ByteArray.size] using h
theorem take1 {t : ByteArray} (h : t.size = 64) : ∃ k, k < 256 ∧ takeOf t 1 = some (k, t.extract 1 64) := by
  have hl : t.data.toList.length = 64 := by rw [Dv.ba_len]; exact h
  have hb : beVal (t.data.toList.take 1) < 256 := by
    have := beVal_lt (t.data.toList.take 1)
    rw [List.length_take, hl, show min 1 64 = 1 from rfl] at this
    simpa using this
  refine ⟨beVal (t.data.toList.take 1), hb, ?_⟩
  unfold takeOf
  rw [if_pos ⟨by omega, by omega, by rw [h]; decide, by rw [show (1 : Int).toNat = 1 from rfl]; omega⟩, h]
  rfl
end
theorem read_blank : readOf blank256 = none := by decide +kernel
theorem home_at {t : ByteArray} {k : Nat} {p : Pg} (h : Home t k p) : pgAt t k = some (p.1.toNat, p.2) ∧ 0 ≤ p.1 := by
  rcases h with ⟨h1, h2⟩ | ⟨h1, h2⟩
  · subst h1 h2
    refine ⟨?_, Int.le_refl _⟩
    unfold pgAt
    rw [if_pos (show allZ blank256 = true from allZ_yes 256)]; rfl
  · have h0 := (pgOk_parts h1).2.2.1
    refine ⟨?_, h0⟩
    have hr := readOf_bytes h1
    have hz : allZ t = false := by
      cases hz : allZ t with
      | false => rfl
      | true =>
        have := allZ_no hz
        rw [h2, pg_size h1] at this
        rw [this, show bstr (List.replicate 256 0) = blank256 from rfl, read_blank] at hr
        cases hr
    unfold pgAt
    rw [if_neg (by rw [hz]; decide), h2, hr]
    exact if_pos (Int.toNat_natCast k)
/-- A call that goes well where the power is on, and leaves it on. -/
def OnOk (m : Ds → Bool × Ds) : Prop := ∀ s, s.pm = .on → (m s).1 = true ∧ (m s).2.pm = .on
theorem OnOk.wr (i : Nat) (l : List UInt8) : OnOk (wr i l) := fun s h => by
  rw [wr_yes (by rw [h]; rfl)]
  exact ⟨rfl, by show s.pm.use.1 = _; rw [h]; rfl⟩
theorem OnOk.sy : OnOk sy := fun s h => by
  rw [sy_yes (by rw [h]; rfl)]
  exact ⟨rfl, by show s.pm.use.1 = _; rw [h]; rfl⟩
theorem OnOk.sq {a b : Ds → Bool × Ds} (ha : OnOk a) (hb : OnOk b) : OnOk (sq a b) := fun s h => by
  obtain ⟨h1, h2⟩ := ha s h
  rw [sq_t h1]
  exact hb _ h2
theorem OnOk.layK (a : Nat) (b : ByteArray) : ∀ m, OnOk (layK m a b)
  | 0 => OnOk.sy
  | m + 1 => OnOk.sq (OnOk.wr _ _) (OnOk.layK a b m)
theorem OnOk.note (k : Nat) : OnOk (noteM k) := OnOk.sq (OnOk.wr _ _) OnOk.sy
theorem OnOk.settle (no : Nat) (b : ByteArray) : OnOk (settleM no b) := OnOk.sq (OnOk.layK _ _ 4) (OnOk.note 0)
theorem OnOk.store (no : Nat) (b : ByteArray) : OnOk (storeM no b) := OnOk.sq (OnOk.layK _ _ 4) (OnOk.sq (OnOk.note _) (OnOk.settle _ _))
theorem setPg_same (now : Nat → Pg) (k : Nat) : setPg now k (now k) = now := by
  funext j
  unfold setPg
  split
  · rename_i e; rw [e]
  · rfl
theorem be_one1 (k : Nat) (h : k < 256) : be 1 k = [UInt8.ofNat k] := by
  unfold be
  simp [Nat.mod_eq_of_lt h]
theorem note_txt (k : Nat) : Dv.txt (Dv.pad (noteL k)) = bstr (be 1 k ++ List.replicate 63 0) := by
  unfold Dv.pad noteL
  rw [be_len]; rfl
theorem note_take (k : Nat) (h : k < 256) : takeOf (Dv.txt (Dv.pad (noteL k))) 1 = some (k, bstr (List.replicate 63 0)) := by
  rw [note_txt]
  exact takeOf_be (K := 1) (by omega) (by omega) (by omega) (by omega) _
theorem note_zero : allZ (Dv.txt (Dv.pad (noteL 0))) = true := by
  rw [note_txt, be_one1 0 (by omega)]
  exact allZ_yes 64
theorem note_some (k : Nat) (h1 : 1 ≤ k) (h : k < 256) : allZ (Dv.txt (Dv.pad (noteL k))) = false := by
  cases hz : allZ (Dv.txt (Dv.pad (noteL k))) with
  | false => rfl
  | true =>
    have h2 := allZ_no hz
    rw [note_txt, be_one1 k h] at h2
    have h3 : (bstr ([UInt8.ofNat k] ++ List.replicate 63 0)).data.toList = List.replicate 64 0 := by
      rw [h2, bstr_data, bstr_size]; rfl
    rw [bstr_data] at h3
    have h4 : UInt8.ofNat k = 0 := by
      have := congrArg List.head? h3
      simpa using this
    have h5 := congrArg UInt8.toNat h4
    rw [UInt8.toNat_ofNat'] at h5
    simp at h5
    omega
section
variable {np : Nat} {now : Nat → Pg}
theorem vw_none {s : Ds} (h : ∀ j : Nat, s.f (j : Int) = none) : vw s = s.g := by
  funext j; unfold vw; rw [h]; rfl
theorem Inv.safe {s : Ds} (h : Inv np s.g now) (hf : ∀ j : Nat, s.f (j : Int) = none) : Safe (fun g => Inv np g now) s := fun g2 hk => by
  have : g2 = s.g := funext fun j => hk.out (hf j)
  rw [this]; exact h
/-- What an Open finds. -/
structure Opn (np : Nat) (now : Nat → Pg) (s : Ds) (o : Int × Ds) : Prop where
  ok : o.1 = 0 → Still np now o.2
  no : o.1 ≠ 0 → Safe (fun g => Inv np g now) o.2
  on : s.pm = .on → o.1 = 0 ∧ o.2.pm = .on
theorem open_inv {s : Ds} (h : Inv np s.g now) (hf : ∀ j : Nat, s.f (j : Int) = none) (hnp : np ≤ 64) : Opn np now s (openM np s) := by
  by_cases ho : s.pm = .off
  · have e : openM np s = (6, s) := by unfold openM; rw [ho]
    rw [e]
    exact ⟨(fun h => by cases h), fun _ => h.safe hf, (fun h2 => by rw [ho] at h2; cases h2)⟩
  rcases h with ⟨h1, h2⟩ | ⟨k, hk, h1, h2, h3, h4⟩
  · have e : openM np s = (0, s) := by
      unfold openM
      have hz : allZ (Dv.txt (vw s 0)) = true := by rw [vw_none hf, show s.g 0 = _ from h1]; exact note_zero
      cases hp : s.pm with
      | off => exact absurd hp ho
      | on => simp only [hz]; rfl
      | arm i => simp only [hz]; rfl
    rw [e]
    exact ⟨fun _ => ⟨h1, h2, hf⟩, (fun h => absurd rfl h), fun h2 => ⟨rfl, h2⟩⟩
  · have hb : txt4 (vw s) 1 = pgBytes k (now k).1 (now k).2 := by rw [vw_none hf]; exact txt4_sec (pg_size h2) h3
    have hr := readOf_bytes h2
    have e : openM np s = (er (settleM k (pgBytes k (now k).1 (now k).2) s).1, (settleM k (pgBytes k (now k).1 (now k).2) s).2) := by
      unfold openM
      have hz : allZ (Dv.txt (vw s 0)) = false := by rw [vw_none hf, show s.g 0 = _ from h1]; exact note_some _ (by omega) (by omega)
      have ht : takeOf (Dv.txt (vw s 0)) 1 = some (k + 1, bstr (List.replicate 63 0)) := by rw [vw_none hf, show s.g 0 = _ from h1]; exact note_take _ (by omega)
      have hc : ¬ (k + 1 < 1 ∨ np < k + 1 ∨ allZ (bstr (List.replicate 63 0)) = false) := fun e => by
        rcases e with e | e | e
        · omega
        · omega
        · rw [allZ_yes] at e; cases e
      cases hp : s.pm with
      | off => exact absurd hp ho
      | on => simp only [hz, ht, if_neg hc, hb, hr, Int.toNat_natCast]; rfl
      | arm i => simp only [hz, ht, if_neg hc, hb, hr, Int.toNat_natCast]; rfl
    have hC : StC np now k (now k) 0 s := ⟨h1, h4, h3, fun j _ => hf j, fun _ hj => by omega⟩
    have hs := settleM_ht (now := now) hk h2 s hC
    rw [setPg_same] at hs
    rw [e]
    refine ⟨fun h => hs.1 ?_, fun h => hs.2 ?_, fun h => ?_⟩
    · cases hb : (settleM k (pgBytes k (now k).1 (now k).2) s).1 with
      | true => rfl
      | false => rw [hb] at h; cases h
    · cases hb : (settleM k (pgBytes k (now k).1 (now k).2) s).1 with
      | false => rfl
      | true => rw [hb] at h; exact absurd rfl h
    · obtain ⟨a, b⟩ := OnOk.settle k (pgBytes k (now k).1 (now k).2) s h
      exact ⟨er_t a, b⟩
/-- A new device of pages: all of them are empty. -/
theorem still_new : Still np (fun _ => (0, [])) dsNew := ⟨by
    show Dv.blank64 = Dv.pad (noteL 0)
    unfold Dv.blank64 noteL Dv.pad
    rw [be_one1 0 (by omega)]; rfl, fun k _ _ => .inl ⟨by
    show bstr (Dv.blank64 ++ Dv.blank64 ++ Dv.blank64 ++ Dv.blank64) = blank256
    decide +kernel, rfl⟩, fun _ => rfl⟩
theorem Still.armed {s : Ds} (h : Still np now s) (pm : Pm) : Still np now ⟨pm, s.g, s.f⟩ := ⟨h.note, h.homes, h.loose⟩
end
/-- Pages that are there, the power being as it is told. -/
def Tk (w W : World) (D P L M n B T np : Nat) (now : Nat → Pg) (pm : Pm) : Prop := ∃ s, TwS w W D P L M n B T np s ∧ Still np now s ∧ s.pm = pm
/-- A device behind whose crash it holds of what lasts, whatever is kept. -/
def Tfell (w W : World) (D P L M n B : Nat) (Q : (Nat → List UInt8) → Prop) : Prop := ∃ s, DvB w W D P L M n B s ∧ Safe Q s
/-- A device that is up again. -/
def Tup (w W : World) (D P L M n B : Nat) (Q : (Nat → List UInt8) → Prop) : Prop := ∃ g, DvB w W D P L M n B ⟨.on, g, fun _ => none⟩ ∧ Q g
section
variable {w W : World} {D P L M n B T np : Nat} {now : Nat → Pg} {pm : Pm} {Q : (Nat → List UInt8) → Prop}
theorem Tk.below {X : World} (h : Tk w W D P L M n B T np now pm) (hb : Below W.heap.size W X) : Tk w X D P L M n B T np now pm := by
  obtain ⟨s, h1, h2⟩ := h
  exact ⟨s, h1.below hb, h2⟩
theorem Tfell.below {X : World} (h : Tfell w W D P L M n B Q) (hb : Below W.heap.size W X) : Tfell w X D P L M n B Q := by
  obtain ⟨s, h1, h2⟩ := h
  exact ⟨s, h1.below hb, h2⟩
theorem Tup.below {X : World} (h : Tup w W D P L M n B Q) (hb : Below W.heap.size W X) : Tup w X D P L M n B Q := by
  obtain ⟨s, h1, h2⟩ := h
  exact ⟨s, h1.below hb, h2⟩
theorem Tk.bw (h : Tk w W D P L M n B T np now pm) : Below w.heap.size w W := by obtain ⟨s, h1, _⟩ := h; exact h1.bw
theorem Tfell.bw (h : Tfell w W D P L M n B Q) : Below w.heap.size w W := by obtain ⟨s, h1, _⟩ := h; exact h1.bw
theorem Tup.bw (h : Tup w W D P L M n B Q) : Below w.heap.size w W := by obtain ⟨s, h1, _⟩ := h; exact h1.bw
theorem Tk.lo (h : Tk w W D P L M n B T np now pm) : w.heap.size ≤ P ∧ w.heap.size ≤ L ∧ w.heap.size ≤ M := by obtain ⟨s, h1, _⟩ := h; exact h1.lo
theorem Tk.lts (h : Tk w W D P L M n B T np now pm) : P < W.heap.size ∧ L < W.heap.size ∧ M < W.heap.size := by obtain ⟨s, h1, _⟩ := h; exact h1.d.lts.2
theorem Tk.fell (h : Tk w W D P L M n B T np now pm) : Tfell w W D P L M n B (fun g => Inv np g now) := by
  obtain ⟨s, h1, h2, _⟩ := h
  exact ⟨s, h1.b, h2.safe⟩
theorem Tfell.mono {Q2 : (Nat → List UInt8) → Prop} (h : Tfell w W D P L M n B Q) (hq : ∀ g, Q g → Q2 g) : Tfell w W D P L M n B Q2 := by
  obtain ⟨s, h1, h2⟩ := h
  exact ⟨s, h1, h2.mono hq⟩
/-- A device of its own, formatted. -/
theorem c_new (n : Nat) (w w0 : World) (hb : Below w.heap.size w w0) (ht : Tab w) (h1 : 1 ≤ n) (h2 : n ≤ 4096) : Calls Tryz.prog 18 #[.pointer none, .int .i64 (n : Int)] w0 fun x w' =>
    ∃ D P L M, x = .returned (.pointer (some ⟨D, 0, none⟩)) ∧ DvB w w' D P L M n 0 dsNew ∧ Below w0.heap.size w0 w' := by
  refine (new_s n w0 h1 h2).mono ?_
  rintro x w' ⟨D, P, L, M, q1, q2, q3, q4, rfl, hd, hb2⟩
  have := hb.size
  exact ⟨D, P, L, M, rfl, ⟨hd, hb.trans (hb2.mono hb.size), ⟨by omega, by omega, by omega⟩, ht⟩, hb2⟩
theorem c_fmt (h : DvB w W D P L M n B dsNew) (hB : B + n + 1 ≤ 900000) (hn : n ≤ 4096) (p : Nat) (h1 : 1 ≤ p) (h2 : p ≤ 64) (h3 : 5 + 4 * p ≤ n) :
    Calls Tryz.prog 19 #[.pointer (some ⟨D, 0, none⟩), .int .i64 (p : Int)] W fun x w' => ∃ T, x = .returned (.tuple #[.pointer (some ⟨T, 0, none⟩), .int .i64 0]) ∧ Tk w w' D P L M n (B + n + 1) T p (fun _ => (0, [])) .on ∧ Dv.Fr3 P L M W w' := by
  refine (fmt_s h hB hn p h1 h2 h3).mono ?_
  rintro x w' ⟨T, rfl, hs, hf, _⟩
  exact ⟨T, rfl, ⟨_, hs, still_new, rfl⟩, hf⟩
/-- What Page answers of a page that is there. -/
theorem c_page (h : Tk w W D P L M n B T np now pm) (hon : pm ≠ .off) (hn : n ≤ 4096) (h3 : 5 + 4 * np ≤ n) (k : Nat) (hk : k < np) :
    Calls Tryz.prog 11 #[.pointer (some ⟨T, 0, none⟩), .int .i64 (k : Int)] W fun x w' => 0 ≤ (now k).1 ∧ ∃ a c, x = .returned (.tuple #[.agg #[.int .i64 (k : Int), .int .i64 (now k).1, .slice a (now k).2.length c], .int .i64 0]) ∧ RowC w' W.heap.size (.slice a (now k).2.length c) (now k).2 ∧ Below W.heap.size W w' := by
  obtain ⟨s, h1, h2, h4⟩ := h
  obtain ⟨e, h0⟩ := home_at (h2.homes k hk (fun f => f))
  have hp := page_s h1 (by rw [h4]; exact hon) hn h3 k hk
  rw [vw_none h2.loose, e] at hp
  refine hp.mono ?_
  rintro x w' ⟨a, c, rfl, hr, hb⟩
  refine ⟨h0, a, c, ?_, hr, hb⟩
  rw [Int.toNat_of_nonneg h0]
end
/-- The document's example: a Store of page 2 that is cut off behind nine uses. -/
def q27 : PgV := ⟨2, 7, none, 0, []⟩
theorem aw_arm (b : ByteArray) (g : Nat → List UInt8) (f : Int → Option (List UInt8)) : (headM 2 b ⟨.arm 9, g, f⟩).1 = true ∧ (storeM 2 b ⟨.arm 9, g, f⟩).1 = false := ⟨rfl, rfl⟩
theorem q27_ok : pgOk 2 7 [] = true := by decide
theorem aw_store {now : Nat → Pg} {s : Ds} (h : Still 4 now s) (hp : s.pm = .arm 9) : ∃ s2, stL 4 [q27] s = (6, s2) ∧ Safe (fun g => Inv 4 g (setPg now 2 (7, []))) s2 := by
  obtain ⟨pm, g, f⟩ := s
  have hp : pm = .arm 9 := hp
  subst hp
  obtain ⟨e1, e2⟩ := aw_arm (pgBytes 2 7 []) g f
  have hc := (headM_ht (n := 4) (now := now) (no := 2) (p := (7, [])) (by omega) q27_ok _ h).1 e1
  have hs := (settleM_ht (n := 4) (now := now) (no := 2) (p := (7, [])) (by omega) q27_ok _ hc).2
  have e3 : storeM 2 (pgBytes 2 7 []) ⟨.arm 9, g, f⟩ = settleM 2 (pgBytes 2 7 []) (headM 2 (pgBytes 2 7 []) ⟨.arm 9, g, f⟩).2 := by rw [storeM_two, sq_t e1]
  rw [e3] at e2
  refine ⟨(settleM 2 (pgBytes 2 7 []) (headM 2 (pgBytes 2 7 []) ⟨.arm 9, g, f⟩).2).2, ?_, hs e2⟩
  have e4 : st1 4 q27 ⟨.arm 9, g, f⟩ = (6, (storeM 2 (pgBytes 2 7 []) ⟨.arm 9, g, f⟩).2) := by
    unfold st1
    rw [if_pos ⟨q27_ok, by show (2 : Int) < 4; omega⟩]
    show (er (storeM 2 (pgBytes 2 7 []) ⟨.arm 9, g, f⟩).1, _) = _
    rw [e3, er_f e2]; rfl
  unfold stL
  rw [if_neg (by rw [e4]; exact (by decide : ¬ (6 : Int) = 0)), e4, e3]
section
variable {w W : World} {D P L M n B T np : Nat} {now : Nat → Pg}
theorem pgs_new {P L M : Nat} (q : PgV) (X : World) (Ty : TypeId) (hl : P < X.heap.size ∧ L < X.heap.size ∧ M < X.heap.size) (ha : ∀ W1, ClsAt W1 q.a q.l) (W1 : World) (hf : Dv.Fr3 P L M (X.alloc (.cells #[.int .i64 q.no, .int .i64 q.g, .slice q.a q.l.length q.c] Ty)) W1) : PgsAt W1 (some ⟨X.heap.size, 0, none⟩) [q] := .inr ⟨X.heap.size, 0, rfl, fun i hi => by
  match i, hi with
  | 0, _ =>
    have h1 : X.heap.size ≠ P := by omega
    have h2 : X.heap.size ≠ L := by omega
    have h3 : X.heap.size ≠ M := by omega
    exact ⟨hf.cell (Dv.new_cell rfl rfl) h1 h2 h3, hf.cell (Dv.new_cell rfl rfl) h1 h2 h3, hf.cell (Dv.new_cell rfl rfl) h1 h2 h3, ha W1⟩⟩
theorem aw_call (h : Tk w W D P L M 50 B T 4 now (.arm 9)) (hB : B + 14 ≤ 900000) :
    Calls Tryz.prog 49 #[.pointer (some ⟨T, 0, none⟩), .slice (some ⟨W.heap.size, 0, none⟩) 1 1] (W.alloc (.cells #[.int .i64 2, .int .i64 7, .slice none 0 0] 36))
      fun x w' => x = .returned (.int .i64 6) ∧ Tfell w w' D P L M 50 (B + 14) (fun g => Inv 4 g (setPg now 2 (7, []))) ∧ Dv.Fr3 P L M (W.alloc (.cells #[.int .i64 2, .int .i64 7, .slice none 0 0] 36)) w' := by
  obtain ⟨s, h1, h2, h3⟩ := h
  obtain ⟨s2, e, hs⟩ := aw_store h2 h3
  have hba := (Below.refl W.heap.size W).alloc (Nat.le_refl _) (.cells #[.int .i64 2, .int .i64 7, .slice none 0 0] 36)
  have := store_l (h1.below hba) (by omega) (by omega) (some ⟨W.heap.size, 0, none⟩) [q27] 1 (by simpa using hB) (fun W1 hf => pgs_new q27 W 36 h1.d.lts.2 (fun _ => .inl rfl) W1 hf) (fun i => by
    match i with
    | 0 => show 0 ≤ maxLen; omega
    | i + 1 => show 0 ≤ maxLen; omega)
  rw [e] at this
  refine this.mono ?_
  rintro x w' ⟨rfl, hs2, hf⟩
  exact ⟨rfl, ⟨s2, hs2.b, hs⟩, hf⟩
end
/-- What a Store of pages comes to, as the document has it: the error's number, and all pages behind it. -/
def mdL (np : Nat) : (Nat → Pg) → List PgV → Int × (Nat → Pg)
  | now, [] => (0, now)
  | now, q :: r => if pgOk q.no q.g q.l = true ∧ q.no < (np : Int) then mdL np (setPg now q.no.toNat (q.g, q.l)) r else (1, now)
theorem stL_on {np : Nat} : ∀ (ps : List PgV) (s : Ds) (now : Nat → Pg), Still np now s → s.pm = .on → (stL np ps s).1 = (mdL np now ps).1 ∧ Still np (mdL np now ps).2 (stL np ps s).2 ∧ (stL np ps s).2.pm = .on
  | [], s, now, h, hp => ⟨rfl, h, hp⟩
  | q :: r, s, now, h, hp => by
    unfold stL mdL
    by_cases hc : pgOk q.no q.g q.l = true ∧ q.no < (np : Int)
    · obtain ⟨k, hk⟩ : ∃ k : Nat, q.no = (k : Int) := ⟨q.no.toNat, by have := (pgOk_parts hc.1).1; omega⟩
      have hkn : k < np := by have := hc.2; omega
      have hok : pgOk (k : Int) q.g q.l = true := by rw [← hk]; exact hc.1
      have e3 : st1 np q s = (er (storeM k (pgBytes k q.g q.l) s).1, (storeM k (pgBytes k q.g q.l) s).2) := by unfold st1; rw [if_pos hc, hk, Int.toNat_natCast]
      obtain ⟨o1, o2⟩ := OnOk.store k (pgBytes k q.g q.l) s hp
      have ht := (storeM_ht (n := np) (now := now) (no := k) (p := (q.g, q.l)) hkn hok s h).1 o1
      have e5 : (st1 np q s).1 = 0 := by rw [e3]; exact er_t o1
      rw [if_pos e5, if_pos hc, e3, hk, Int.toNat_natCast]
      exact stL_on r _ _ ht o2
    · have e3 : st1 np q s = (1, s) := by unfold st1; rw [if_neg hc]
      rw [if_neg (by rw [e3]; exact (by decide : ¬ (1 : Int) = 0)), if_neg hc, e3]
      exact ⟨rfl, h, hp⟩
section
variable {w W : World} {D P L M n B T np R : Nat} {now : Nat → Pg} {pm : Pm}
theorem c_storeL (h : Tk w W D P L M n B T np now .on) (hn : n ≤ 4096) (h3 : 5 + 4 * np ≤ n) (a : Option Addr) (ps : List PgV) (c : Nat) (hB : B + 14 * ps.length ≤ 900000) (hps : PgsAt w a ps) (hl : ∀ i, (ps.getD i noPg).l.length ≤ maxLen) :
    Calls Tryz.prog 49 #[.pointer (some ⟨T, 0, none⟩), .slice a ps.length c] W fun x w' => x = .returned (.int .i64 (mdL np now ps).1) ∧ Tk w w' D P L M n (B + 14 * ps.length) T np (mdL np now ps).2 .on ∧ Dv.Fr3 P L M W w' := by
  obtain ⟨s, q1, q2, q3⟩ := h
  obtain ⟨e1, e2, e3⟩ := stL_on ps s now q2 q3
  refine (store_l q1 hn h3 a ps c hB (fun W1 hf => hps.below (q1.bw.trans (hf.below q1.bw.size q1.lo.1 q1.lo.2.1 q1.lo.2.2))) hl).mono ?_
  rintro x w' ⟨rfl, hs, hf⟩
  rw [e1]
  exact ⟨rfl, ⟨_, hs, e2, e3⟩, hf⟩
end
end Go.Proofs.YtkemhkmabbladaaGreatDoor
