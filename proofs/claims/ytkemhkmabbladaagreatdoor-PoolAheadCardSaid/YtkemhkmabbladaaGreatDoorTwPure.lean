/-
  PAGES THAT ARE WRITTEN TWICE, as a device's states: what a Store does use by use, what a crash leaves of it.
-/
import Derived.Test.YtkemhkmabbladaaGreatDoorTwM
import Derived.Test.YtkemhkmabbladaaGreatDoorTpRefReadP
namespace Go.Proofs.YtkemhkmabbladaaGreatDoor
open Go.RowKit
abbrev Pg := Int × List (ByteArray × ByteArray)
/-- A triple: what holds ahead, what holds where all went well, what holds where a use was refused. -/
def HT (pre : Ds → Prop) (m : Ds → Bool × Ds) (post crash : Ds → Prop) : Prop := ∀ s, pre s → ((m s).1 = true → post (m s).2) ∧ ((m s).1 = false → crash (m s).2)
theorem HT.sq {pre mid post crash : Ds → Prop} {a b : Ds → Bool × Ds} (ha : HT pre a mid crash) (hb : HT mid b post crash) : HT pre (sq a b) post crash := fun s hs => by
  unfold Go.Proofs.YtkemhkmabbladaaGreatDoor.sq
  cases h : (a s).1 with
  | true => exact hb _ ((ha s hs).1 h)
  | false => exact ⟨(fun e => by cases e), fun _ => (ha s hs).2 h⟩
theorem HT.wr {pre post crash : Ds → Prop} {i : Nat} {l : List UInt8} (h1 : ∀ s, pre s → ∀ pm, crash ⟨pm, s.g, s.f⟩) (h2 : ∀ s, pre s → ∀ pm, post ⟨pm, s.g, Dv.upd s.f i (some (Dv.pad l))⟩) : HT pre (wr i l) post crash := fun s hs => by
  cases h : s.pm.use.2 with
  | true => rw [wr_yes h]; exact ⟨fun _ => h2 s hs _, (fun e => by cases e)⟩
  | false => rw [wr_no h]; exact ⟨(fun e => by cases e), fun _ => h1 s hs _⟩
theorem HT.sy {pre post crash : Ds → Prop} (h1 : ∀ s, pre s → ∀ pm, crash ⟨pm, s.g, s.f⟩) (h2 : ∀ s, pre s → ∀ pm, post ⟨pm, vw s, fun _ => none⟩) : HT pre sy post crash := fun s hs => by
  cases h : s.pm.use.2 with
  | true => rw [sy_yes h]; exact ⟨fun _ => h2 s hs _, (fun e => by cases e)⟩
  | false => rw [sy_no h]; exact ⟨(fun e => by cases e), fun _ => h1 s hs _⟩
/-- The text of four sectors. -/
def txt4 (g : Nat → List UInt8) (at_ : Nat) : ByteArray := bstr (g at_ ++ g (at_ + 1) ++ g (at_ + 2) ++ g (at_ + 3))
def blank256 : ByteArray := bstr (List.replicate 256 0)
/-- A page's sectors hold it. -/
def Home (t : ByteArray) (k : Nat) (p : Pg) : Prop := (t = blank256 ∧ p = (0, [])) ∨ (pgOk k p.1 p.2 = true ∧ t = pgBytes k p.1 p.2)
def Homes (n : Nat) (g : Nat → List UInt8) (now : Nat → Pg) (skip : Nat → Prop) : Prop := ∀ k, k < n → ¬ skip k → Home (txt4 g (place k)) k (now k)
def NoteIs (g : Nat → List UInt8) (k : Nat) : Prop := g 0 = Dv.pad (noteL k)
def CopyIs (g : Nat → List UInt8) (b : ByteArray) : Prop := ∀ i, i < 4 → g (1 + i) = sec b i
/-- What lasts: no note, and all pages; or a note of one, with its copy, and all others. -/
def Inv (n : Nat) (g : Nat → List UInt8) (now : Nat → Pg) : Prop :=
  (NoteIs g 0 ∧ Homes n g now (fun _ => False)) ∨
  ∃ k, k < n ∧ NoteIs g (k + 1) ∧ pgOk k (now k).1 (now k).2 = true ∧ CopyIs g (pgBytes k (now k).1 (now k).2) ∧ Homes n g now (fun j => j = k)
def setPg (now : Nat → Pg) (k : Nat) (p : Pg) : Nat → Pg := fun j => if j = k then p else now j
theorem txt4_same {g g2 : Nat → List UInt8} {a : Nat} (h : ∀ i, i < 4 → g2 (a + i) = g (a + i)) : txt4 g2 a = txt4 g a := by
  unfold txt4
  rw [show g2 a = g a from h 0 (by omega), h 1 (by omega), h 2 (by omega), h 3 (by omega)]
theorem sec_len {b : ByteArray} (hb : b.size = 256) {i : Nat} (hi : i < 4) : (sec b i).length = 64 := by
  unfold sec
  have : b.data.toList.length = 256 := by rw [Array.length_toList]; exact hb
  simp
  omega
theorem pad_sec {b : ByteArray} (hb : b.size = 256) {i : Nat} (hi : i < 4) : Dv.pad (sec b i) = sec b i := by
  unfold Dv.pad
  rw [sec_len hb hi]
  simp
theorem txt4_sec {g : Nat → List UInt8} {a : Nat} {b : ByteArray} (hb : b.size = 256) (h : ∀ i, i < 4 → g (a + i) = sec b i) : txt4 g a = b := by
  unfold txt4
  rw [show g a = sec b 0 from h 0 (by omega), h 1 (by omega), h 2 (by omega), h 3 (by omega)]
  apply bs_ext
  rw [bstr_data]
  unfold sec
  have hl : b.data.toList.length = 256 := by rw [Array.length_toList]; exact hb
  generalize b.data.toList = l at hl
  have e3 : (l.drop (64 * 3)).take 64 = l.drop (64 * 3) := List.take_of_length_le (by rw [List.length_drop]; omega)
  have e2 : l.drop (64 * 2) = (l.drop (64 * 2)).take 64 ++ l.drop (64 * 3) := by
    conv => lhs; rw [← List.take_append_drop 64 (l.drop (64 * 2))]
    rw [List.drop_drop]
  have e1 : l.drop (64 * 1) = (l.drop (64 * 1)).take 64 ++ l.drop (64 * 2) := by
    conv => lhs; rw [← List.take_append_drop 64 (l.drop (64 * 1))]
    rw [List.drop_drop]
  have e0 : l = (l.drop (64 * 0)).take 64 ++ l.drop (64 * 1) := by
    conv => lhs; rw [← List.take_append_drop 64 l]
    rfl
  rw [e3, List.append_assoc, List.append_assoc, ← e2, ← e1, ← e0]
theorem Homes.same {n : Nat} {g g2 : Nat → List UInt8} {now now2 : Nat → Pg} {sk sk2 : Nat → Prop} (h : Homes n g now sk) (hs : ∀ k, sk k → sk2 k) (hn : ∀ k, k < n → ¬ sk2 k → now2 k = now k) (hg : ∀ k, k < n → ¬ sk2 k → ∀ i, i < 4 → g2 (place k + i) = g (place k + i)) : Homes n g2 now2 sk2 := fun k hk hsk => by
  rw [hn k hk hsk, txt4_same (hg k hk hsk)]
  exact h k hk (fun e => hsk (hs k e))
theorem Kept.out {g : Nat → List UInt8} {f : Int → Option (List UInt8)} {g2 : Nat → List UInt8} (h : Kept g f g2) {j : Nat} (hj : f (j : Int) = none) : g2 j = g j := by
  rcases h j with e | e
  · exact e
  · rw [hj] at e; cases e
/-- Whatever is kept, it holds of what lasts then. -/
def Safe (Q : (Nat → List UInt8) → Prop) (s : Ds) : Prop := ∀ g2, Kept s.g s.f g2 → Q g2
theorem pg_size {k : Nat} {p : Pg} (h : pgOk k p.1 p.2 = true) : (pgBytes k p.1 p.2).size = 256 := pgBytes_size h
section
variable {n no : Nat} {now : Nat → Pg} {p : Pg}
/-- Ahead of a Store: no note, all pages there, nothing loose but what is written of a copy. -/
structure StA (n : Nat) (now : Nat → Pg) (b : ByteArray) (i : Nat) (s : Ds) : Prop where
  note : NoteIs s.g 0
  homes : Homes n s.g now (fun _ => False)
  loose : ∀ j : Nat, (j = 0 ∨ 5 ≤ j) → s.f (j : Int) = none
  done : ∀ k, k < i → s.f ((1 + k : Nat) : Int) = some (sec b k)
theorem place_ge (k : Nat) : 5 ≤ place k := by unfold place; omega
theorem StA.safe {b : ByteArray} {i : Nat} {s : Ds} (h : StA n now b i s) : Safe (fun g => Inv n g now) s := fun g2 hk => by
  refine .inl ⟨?_, h.homes.same (fun _ e => e) (fun _ _ _ => rfl) (fun k _ _ i _ => hk.out (h.loose _ (.inr (by have := place_ge k; omega))))⟩
  unfold NoteIs
  rw [hk.out (h.loose 0 (.inl rfl))]
  exact h.note
theorem upd_out {f : Int → Option (List UInt8)} {i j : Nat} {l : Option (List UInt8)} (h : j ≠ i) : Dv.upd f (i : Int) l (j : Int) = f (j : Int) := by
  unfold Dv.upd; rw [if_neg (by omega)]
theorem upd_in {f : Int → Option (List UInt8)} {i : Nat} {l : Option (List UInt8)} : Dv.upd f (i : Int) l (i : Int) = l := by
  unfold Dv.upd; rw [if_pos rfl]
theorem StA.step {b : ByteArray} (hb : b.size = 256) {i : Nat} (hi : i < 4) {s : Ds} (h : StA n now b i s) (pm : Pm) : StA n now b (i + 1) ⟨pm, s.g, Dv.upd s.f ((1 + i : Nat) : Int) (some (Dv.pad (sec b i)))⟩ where
  note := h.note
  homes := h.homes
  loose := fun j hj => by
    show Dv.upd _ _ _ _ = none
    rw [upd_out (by omega)]; exact h.loose j hj
  done := fun k hk => by
    show Dv.upd _ _ _ _ = _
    by_cases e : k = i
    · subst e; rw [upd_in, pad_sec hb hi]
    · rw [upd_out (by omega)]; exact h.done k (by omega)
/-- Behind the copy: it lasts. -/
structure StB (n : Nat) (now : Nat → Pg) (b : ByteArray) (s : Ds) : Prop where
  note : NoteIs s.g 0
  homes : Homes n s.g now (fun _ => False)
  loose : ∀ j : Nat, s.f (j : Int) = none
  copy : CopyIs s.g b
theorem StA.sync {b : ByteArray} {s : Ds} (h : StA n now b 4 s) (pm : Pm) : StB n now b ⟨pm, vw s, fun _ => none⟩ where
  note := by show vw s 0 = _; unfold vw; rw [h.loose 0 (.inl rfl)]; exact h.note
  homes := h.homes.same (fun _ e => e) (fun _ _ _ => rfl) (fun k _ _ i _ => by
    show vw s _ = _
    unfold vw; rw [h.loose _ (.inr (by have := place_ge k; omega))]; rfl)
  loose := fun _ => rfl
  copy := fun i hi => by
    show vw s _ = _
    unfold vw; rw [h.done i hi]; rfl
theorem layK_A {b : ByteArray} (hb : b.size = 256) : ∀ m, m ≤ 4 → HT (StA n now b (4 - m)) (layK m 1 b) (StB n now b) (Safe fun g => Inv n g now)
  | 0, _ => HT.sy (fun s h pm => StA.safe (s := ⟨pm, s.g, s.f⟩) ⟨h.note, h.homes, h.loose, h.done⟩) (fun s h pm => h.sync pm)
  | m + 1, hm => HT.sq (HT.wr (fun s h pm => StA.safe (s := ⟨pm, s.g, s.f⟩) ⟨h.note, h.homes, h.loose, h.done⟩) (fun s h pm => by
      have := h.step hb (by omega) pm
      rw [show 4 - (m + 1) + 1 = 4 - m by omega] at this
      exact this)) (layK_A hb m (by omega))
theorem note_one (k : Nat) : (noteL k).length = 1 := be_len 1 k
/-- Behind the note: it is there, and what is written of the page. -/
structure StC (n : Nat) (now : Nat → Pg) (no : Nat) (p : Pg) (i : Nat) (s : Ds) : Prop where
  note : NoteIs s.g (no + 1)
  homes : Homes n s.g now (fun k => k = no)
  copy : CopyIs s.g (pgBytes no p.1 p.2)
  loose : ∀ j : Nat, (j < place no ∨ place no + 4 ≤ j) → s.f (j : Int) = none
  done : ∀ k, k < i → s.f ((place no + k : Nat) : Int) = some (sec (pgBytes no p.1 p.2) k)
theorem place_apart {j k : Nat} (h : j ≠ k) (i : Nat) (hi : i < 4) : place j + i < place k ∨ place k + 4 ≤ place j + i := by unfold place; omega
theorem setPg_in : setPg now no p no = p := by unfold setPg; rw [if_pos rfl]
theorem setPg_out {k : Nat} (h : k ≠ no) : setPg now no p k = now k := by unfold setPg; rw [if_neg h]
theorem StC.safe {i : Nat} {s : Ds} (h : StC n now no p i s) (hno : no < n) (hp : pgOk no p.1 p.2 = true) : Safe (fun g => Inv n g (setPg now no p)) s := fun g2 hk => by
  refine .inr ⟨no, hno, ?_, by rw [setPg_in]; exact hp, ?_, h.homes.same (fun _ e => e) (fun k _ e => setPg_out e) (fun k _ e i hi => hk.out (h.loose _ (place_apart e i hi)))⟩
  · unfold NoteIs
    rw [hk.out (h.loose 0 (.inl (by have := place_ge no; omega)))]
    exact h.note
  · rw [setPg_in]
    intro i hi
    rw [hk.out (h.loose _ (.inl (by have := place_ge no; omega)))]
    exact h.copy i hi
theorem StB.note_on {s : Ds} (h : StB n now (pgBytes no p.1 p.2) s) (pm pm2 : Pm) : StC n now no p 0 ⟨pm2, vw ⟨pm, s.g, Dv.upd s.f ((0 : Nat) : Int) (some (Dv.pad (noteL (no + 1))))⟩, fun _ => none⟩ where
  note := by
    change vw ⟨pm, s.g, Dv.upd s.f ((0 : Nat) : Int) (some (Dv.pad (noteL (no + 1))))⟩ 0 = _
    unfold vw; show (Dv.upd s.f ((0 : Nat) : Int) _ ((0 : Nat) : Int)).getD _ = _; rw [upd_in]; rfl
  homes := h.homes.same (fun _ e => e.elim) (fun _ _ _ => rfl) (fun k _ _ i _ => by
    show vw _ _ = _
    unfold vw; show (Dv.upd s.f ((0 : Nat) : Int) _ _).getD _ = _; rw [upd_out (by have := place_ge k; omega), h.loose]; rfl)
  copy := fun i hi => by
    show vw _ _ = _
    unfold vw; show (Dv.upd s.f ((0 : Nat) : Int) _ _).getD _ = _; rw [upd_out (by omega), h.loose]; exact h.copy i hi
  loose := fun _ _ => rfl
  done := fun _ hk => by omega
/-- A crash between the note and its Sync. -/
theorem StB.note_safe {s : Ds} (h : StB n now (pgBytes no p.1 p.2) s) (hno : no < n) (hp : pgOk no p.1 p.2 = true) (pm : Pm) : Safe (fun g => Inv n g now ∨ Inv n g (setPg now no p)) ⟨pm, s.g, Dv.upd s.f ((0 : Nat) : Int) (some (Dv.pad (noteL (no + 1))))⟩ := fun g2 hk => by
  have ho : ∀ j : Nat, 1 ≤ j → g2 j = s.g j := fun j hj => hk.out (by show Dv.upd _ _ _ _ = none; rw [upd_out (by omega)]; exact h.loose j)
  rcases hk 0 with e | e
  · exact .inl (.inl ⟨e.trans h.note, h.homes.same (fun _ e => e) (fun _ _ _ => rfl) (fun k _ _ i _ => ho _ (by have := place_ge k; omega))⟩)
  · refine .inr (.inr ⟨no, hno, ?_, by rw [setPg_in]; exact hp, ?_, h.homes.same (fun _ e => e.elim) (fun k _ e => setPg_out e) (fun k _ _ i _ => ho _ (by have := place_ge k; omega))⟩)
    · change Dv.upd s.f ((0 : Nat) : Int) _ ((0 : Nat) : Int) = _ at e
      rw [upd_in] at e
      injection e with e
      exact e.symm
    · rw [setPg_in]
      intro i hi
      rw [ho _ (by omega)]
      exact h.copy i hi
theorem StB.safe {s : Ds} {b : ByteArray} (h : StB n now b s) : Safe (fun g => Inv n g now) s := fun _ hk =>
  .inl ⟨(hk.out (h.loose 0)).trans h.note, h.homes.same (fun _ e => e) (fun _ _ _ => rfl) (fun _ _ _ _ _ => hk.out (h.loose _))⟩
theorem Safe.mono {Q R : (Nat → List UInt8) → Prop} {s : Ds} (h : Safe Q s) (hq : ∀ g, Q g → R g) : Safe R s := fun g hk => hq g (h g hk)
theorem HT.mono {pre pre2 post post2 crash crash2 : Ds → Prop} {m : Ds → Bool × Ds} (h : HT pre m post crash) (h1 : ∀ s, pre2 s → pre s) (h2 : ∀ s, post s → post2 s) (h3 : ∀ s, crash s → crash2 s) : HT pre2 m post2 crash2 := fun s hs => ⟨fun e => h2 _ ((h s (h1 s hs)).1 e), fun e => h3 _ ((h s (h1 s hs)).2 e)⟩
/-- A state ahead of a Store, and behind one. -/
structure Still (n : Nat) (now : Nat → Pg) (s : Ds) : Prop where
  note : NoteIs s.g 0
  homes : Homes n s.g now (fun _ => False)
  loose : ∀ j : Nat, s.f (j : Int) = none
theorem Still.safe {s : Ds} (h : Still n now s) : Safe (fun g => Inv n g now) s := fun _ hk =>
  .inl ⟨(hk.out (h.loose 0)).trans h.note, h.homes.same (fun _ e => e) (fun _ _ _ => rfl) (fun _ _ _ _ _ => hk.out (h.loose _))⟩
/-- A state between a note's write and its Sync. -/
def NotedB (n : Nat) (now : Nat → Pg) (b : ByteArray) (k : Nat) (s : Ds) : Prop := ∃ s0 : Ds, StB n now b s0 ∧ s.g = s0.g ∧ s.f = Dv.upd s0.f ((0 : Nat) : Int) (some (Dv.pad (noteL k)))
theorem headM_ht (hno : no < n) (hp : pgOk no p.1 p.2 = true) : HT (Still n now) (headM no (pgBytes no p.1 p.2)) (StC n now no p 0) (Safe fun g => Inv n g now ∨ Inv n g (setPg now no p)) := by
  refine HT.sq (mid := StB n now (pgBytes no p.1 p.2)) ?_ ?_
  · exact (layK_A (n := n) (now := now) (pg_size hp) 4 (by omega)).mono (fun s h => ⟨h.note, h.homes, fun j _ => h.loose j, fun _ hk => by omega⟩) (fun _ h => h) (fun s h => h.mono fun g hg => .inl hg)
  · refine HT.sq (mid := NotedB n now (pgBytes no p.1 p.2) (no + 1)) (HT.wr (fun s h pm => Safe.mono (StB.safe (s := ⟨pm, s.g, s.f⟩) ⟨h.note, h.homes, h.loose, h.copy⟩) fun g hg => .inl hg) (fun s h pm => ⟨s, h, rfl, rfl⟩)) (HT.sy ?_ ?_)
    · rintro ⟨pm0, g0, f0⟩ ⟨s0, h, hg, hf⟩ pm
      dsimp only at hg hf
      subst hg hf
      exact h.note_safe hno hp pm
    · rintro ⟨pm0, g0, f0⟩ ⟨s0, h, hg, hf⟩ pm
      dsimp only at hg hf
      subst hg hf
      exact h.note_on pm0 pm
theorem StC.step (hp : pgOk no p.1 p.2 = true) {i : Nat} (hi : i < 4) {s : Ds} (h : StC n now no p i s) (pm : Pm) : StC n now no p (i + 1) ⟨pm, s.g, Dv.upd s.f ((place no + i : Nat) : Int) (some (Dv.pad (sec (pgBytes no p.1 p.2) i)))⟩ where
  note := h.note
  homes := h.homes
  copy := h.copy
  loose := fun j hj => by
    show Dv.upd _ _ _ _ = none
    rw [upd_out (by omega)]; exact h.loose j hj
  done := fun k hk => by
    show Dv.upd _ _ _ _ = _
    by_cases e : k = i
    · subst e; rw [upd_in, pad_sec (pg_size hp) hi]
    · rw [upd_out (by omega)]; exact h.done k (by omega)
/-- Behind the page: all pages are there, and the note still is. -/
structure StD (n : Nat) (now : Nat → Pg) (no : Nat) (p : Pg) (s : Ds) : Prop where
  note : NoteIs s.g (no + 1)
  homes : Homes n s.g (setPg now no p) (fun _ => False)
  copy : CopyIs s.g (pgBytes no p.1 p.2)
  loose : ∀ j : Nat, s.f (j : Int) = none
theorem StC.sync (hp : pgOk no p.1 p.2 = true) {s : Ds} (h : StC n now no p 4 s) (pm : Pm) : StD n now no p ⟨pm, vw s, fun _ => none⟩ where
  note := by show vw s 0 = _; unfold vw; rw [h.loose 0 (.inl (by have := place_ge no; omega))]; exact h.note
  homes := fun k hk _ => by
    by_cases e : k = no
    · subst e
      rw [setPg_in]
      refine .inr ⟨hp, txt4_sec (pg_size hp) fun i hi => ?_⟩
      show vw s _ = _
      unfold vw; rw [h.done i hi]; rfl
    · rw [setPg_out e, show txt4 (vw s) (place k) = txt4 s.g (place k) from txt4_same fun i hi => by
        unfold vw; rw [h.loose _ (place_apart e i hi)]; rfl]
      exact h.homes k hk e
  copy := fun i hi => by
    show vw s _ = _
    unfold vw; rw [h.loose _ (.inl (by have := place_ge no; omega))]; exact h.copy i hi
  loose := fun _ => rfl
theorem layK_C (hno : no < n) (hp : pgOk no p.1 p.2 = true) : ∀ m, m ≤ 4 → HT (StC n now no p (4 - m)) (layK m (place no) (pgBytes no p.1 p.2)) (StD n now no p) (Safe fun g => Inv n g (setPg now no p))
  | 0, _ => HT.sy (fun s h pm => StC.safe (s := ⟨pm, s.g, s.f⟩) ⟨h.note, h.homes, h.copy, h.loose, h.done⟩ hno hp) (fun s h pm => h.sync hp pm)
  | m + 1, hm => HT.sq (HT.wr (fun s h pm => StC.safe (s := ⟨pm, s.g, s.f⟩) ⟨h.note, h.homes, h.copy, h.loose, h.done⟩ hno hp) (fun s h pm => by
      have := h.step hp (by omega) pm
      rw [show 4 - (m + 1) + 1 = 4 - m by omega] at this
      exact this)) (layK_C hno hp m (by omega))
theorem StD.safe {s : Ds} (h : StD n now no p s) (hno : no < n) (hp : pgOk no p.1 p.2 = true) (o : Option (List UInt8)) (ho : o = none ∨ o = some (Dv.pad (noteL 0))) (pm : Pm) : Safe (fun g => Inv n g (setPg now no p)) ⟨pm, s.g, Dv.upd s.f ((0 : Nat) : Int) o⟩ := fun g2 hk => by
  have hh : ∀ j : Nat, 1 ≤ j → g2 j = s.g j := fun j hj => hk.out (by show Dv.upd _ _ _ _ = none; rw [upd_out (by omega)]; exact h.loose j)
  rcases hk 0 with e | e
  · refine .inr ⟨no, hno, e.trans h.note, by rw [setPg_in]; exact hp, ?_, h.homes.same (fun _ e => e.elim) (fun _ _ _ => rfl) (fun k _ _ i _ => hh _ (by have := place_ge k; omega))⟩
    rw [setPg_in]
    intro i hi
    rw [hh _ (by omega)]
    exact h.copy i hi
  · refine .inl ⟨?_, h.homes.same (fun _ e => e) (fun _ _ _ => rfl) (fun k _ _ i _ => hh _ (by have := place_ge k; omega))⟩
    change Dv.upd s.f ((0 : Nat) : Int) _ ((0 : Nat) : Int) = _ at e
    rw [upd_in] at e
    rcases ho with ho | ho
    · rw [ho] at e; cases e
    · rw [ho] at e
      injection e with e
      exact e.symm
theorem upd_none {f : Int → Option (List UInt8)} (h : ∀ j : Nat, f (j : Int) = none) {g g2 : Nat → List UInt8} (hk : Kept g f g2) : Kept g (Dv.upd f ((0 : Nat) : Int) none) g2 := fun j => .inl (hk.out (h j))
def NotedD (n : Nat) (now : Nat → Pg) (no : Nat) (p : Pg) (s : Ds) : Prop := ∃ s0 : Ds, StD n now no p s0 ∧ s.g = s0.g ∧ s.f = Dv.upd s0.f ((0 : Nat) : Int) (some (Dv.pad (noteL 0)))
theorem settleM_ht (hno : no < n) (hp : pgOk no p.1 p.2 = true) : HT (StC n now no p 0) (settleM no (pgBytes no p.1 p.2)) (Still n (setPg now no p)) (Safe fun g => Inv n g (setPg now no p)) := by
  refine HT.sq (mid := StD n now no p) (layK_C hno hp 4 (by omega)) ?_
  refine HT.sq (mid := NotedD n now no p) (HT.wr (fun s h pm => ?_) (fun s h pm => ⟨s, h, rfl, rfl⟩)) (HT.sy ?_ ?_)
  · intro g2 hk
    exact h.safe hno hp none (.inl rfl) pm g2 (upd_none h.loose hk)
  · rintro ⟨pm0, g0, f0⟩ ⟨s0, h, hg, hf⟩ pm
    dsimp only at hg hf
    subst hg hf
    exact h.safe hno hp _ (.inr rfl) pm
  · rintro ⟨pm0, g0, f0⟩ ⟨s0, h, hg, hf⟩ pm
    dsimp only at hg hf
    subst hg hf
    refine ⟨?_, ?_, fun _ => rfl⟩
    · change vw ⟨pm0, s0.g, Dv.upd s0.f ((0 : Nat) : Int) (some (Dv.pad (noteL 0)))⟩ 0 = _
      unfold vw; show (Dv.upd s0.f ((0 : Nat) : Int) _ ((0 : Nat) : Int)).getD _ = _; rw [upd_in]; rfl
    · refine h.homes.same (fun _ e => e) (fun _ _ _ => rfl) (fun k _ _ i _ => ?_)
      show vw _ _ = _
      unfold vw; show (Dv.upd s0.f ((0 : Nat) : Int) _ _).getD _ = _; rw [upd_out (by have := place_ge k; omega), h.loose]; rfl
/-- WHAT A STORE LEAVES: all pages, the new one among them; or, where the power goes, one of the two whatever is kept. -/
theorem storeM_ht (hno : no < n) (hp : pgOk no p.1 p.2 = true) : HT (Still n now) (storeM no (pgBytes no p.1 p.2)) (Still n (setPg now no p)) (Safe fun g => Inv n g now ∨ Inv n g (setPg now no p)) := fun s hs => by
  rw [storeM_two]
  exact HT.sq (headM_ht hno hp) ((settleM_ht hno hp).mono (fun _ h => h) (fun _ h => h) (fun _ h => h.mono fun g hg => .inr hg)) s hs
end
end Go.Proofs.YtkemhkmabbladaaGreatDoor
