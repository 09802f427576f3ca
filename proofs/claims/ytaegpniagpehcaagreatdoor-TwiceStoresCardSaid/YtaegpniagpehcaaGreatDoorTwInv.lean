/-
  WHAT AN OPEN TELLS OF PAGES THAT LAST, whatever was under way.
-/
import Derived.Test.YtaegpniagpehcaaGreatDoorTwOpen
namespace Go.Proofs.YtaegpniagpehcaaGreatDoor
open Go.RowKit
theorem read_blank : readOf blank256 = none := by decide +kernel
theorem home_at {t : ByteArray} {k : Nat} {p : Pg} (h : Home t k p) : pgAt t k = some (p.1.toNat, p.2) ∧ 0 ≤ p.1 := by
  rcases h with ⟨h1, h2⟩ | ⟨h1, h2⟩
  · subst h1 h2
    refine ⟨?_, Int.le_refl _⟩
    unfold pgAt
    rw [if_pos (show allZ blank256 = true from allZ_yes 256)]; rfl
  · have h0 := (pgOk_parts h1).2.2.1
    refine ⟨?_, h0⟩
    have hr := readOf_bytes h1
    have hz : allZ t = false := by
      cases hz : allZ t with
      | false => rfl
      | true =>
        have := allZ_no hz
        rw [h2, pg_size h1] at this
        rw [this, show bstr (List.replicate 256 0) = blank256 from rfl, read_blank] at hr
        cases hr
    unfold pgAt
    rw [if_neg (by rw [hz]; decide), h2, hr]
    exact if_pos (Int.toNat_natCast k)
/-- A call that goes well where the power is on, and leaves it on. -/
def OnOk (m : Ds → Bool × Ds) : Prop := ∀ s, s.pm = .on → (m s).1 = true ∧ (m s).2.pm = .on
theorem OnOk.wr (i : Nat) (l : List UInt8) : OnOk (wr i l) := fun s h => by
  rw [wr_yes (by rw [h]; rfl)]
  exact ⟨rfl, by show s.pm.use.1 = _; rw [h]; rfl⟩
theorem OnOk.sy : OnOk sy := fun s h => by
  rw [sy_yes (by rw [h]; rfl)]
  exact ⟨rfl, by show s.pm.use.1 = _; rw [h]; rfl⟩
theorem OnOk.sq {a b : Ds → Bool × Ds} (ha : OnOk a) (hb : OnOk b) : OnOk (sq a b) := fun s h => by
  obtain ⟨h1, h2⟩ := ha s h
  rw [sq_t h1]
  exact hb _ h2
theorem OnOk.layK (a : Nat) (b : ByteArray) : ∀ m, OnOk (layK m a b)
  | 0 => OnOk.sy
  | m + 1 => OnOk.sq (OnOk.wr _ _) (OnOk.layK a b m)
theorem OnOk.note (k : Nat) : OnOk (noteM k) := OnOk.sq (OnOk.wr _ _) OnOk.sy
theorem OnOk.settle (no : Nat) (b : ByteArray) : OnOk (settleM no b) := OnOk.sq (OnOk.layK _ _ 4) (OnOk.note 0)
theorem OnOk.store (no : Nat) (b : ByteArray) : OnOk (storeM no b) := OnOk.sq (OnOk.layK _ _ 4) (OnOk.sq (OnOk.note _) (OnOk.settle _ _))
theorem setPg_same (now : Nat → Pg) (k : Nat) : setPg now k (now k) = now := by
  funext j
  unfold setPg
  split
  · rename_i e; rw [e]
  · rfl
theorem be_one1 (k : Nat) (h : k < 256) : be 1 k = [UInt8.ofNat k] := by
  unfold be
  simp [Nat.mod_eq_of_lt h]
theorem note_txt (k : Nat) : Dv.txt (Dv.pad (noteL k)) = bstr (be 1 k ++ List.replicate 63 0) := by
  unfold Dv.pad noteL
  rw [be_len]; rfl
theorem note_take (k : Nat) (h : k < 256) : takeOf (Dv.txt (Dv.pad (noteL k))) 1 = some (k, bstr (List.replicate 63 0)) := by
  rw [note_txt]
  exact takeOf_be (K := 1) (by omega) (by omega) (by omega) (by omega) _
theorem note_zero : allZ (Dv.txt (Dv.pad (noteL 0))) = true := by
  rw [note_txt, be_one1 0 (by omega)]
  exact allZ_yes 64
theorem note_some (k : Nat) (h1 : 1 ≤ k) (h : k < 256) : allZ (Dv.txt (Dv.pad (noteL k))) = false := by
  cases hz : allZ (Dv.txt (Dv.pad (noteL k))) with
  | false => rfl
  | true =>
    have h2 := allZ_no hz
    rw [note_txt, be_one1 k h] at h2
    have h3 : (bstr ([UInt8.ofNat k] ++ List.replicate 63 0)).data.toList = List.replicate 64 0 := by
      rw [h2, bstr_data, bstr_size]; rfl
    rw [bstr_data] at h3
    have h4 : UInt8.ofNat k = 0 := by
      have := congrArg List.head? h3
      simpa using this
    have h5 := congrArg UInt8.toNat h4
    rw [UInt8.toNat_ofNat'] at h5
    simp at h5
    omega
section
variable {np : Nat} {now : Nat → Pg}
theorem vw_none {s : Ds} (h : ∀ j : Nat, s.f (j : Int) = none) : vw s = s.g := by
  funext j; unfold vw; rw [h]; rfl
theorem Inv.safe {s : Ds} (h : Inv np s.g now) (hf : ∀ j : Nat, s.f (j : Int) = none) : Safe (fun g => Inv np g now) s := fun g2 hk => by
  have : g2 = s.g := funext fun j => hk.out (hf j)
  rw [this]; exact h
/-- What an Open finds. -/
structure Opn (np : Nat) (now : Nat → Pg) (s : Ds) (o : Int × Ds) : Prop where
  ok : o.1 = 0 → Still np now o.2
  no : o.1 ≠ 0 → Safe (fun g => Inv np g now) o.2
  on : s.pm = .on → o.1 = 0 ∧ o.2.pm = .on
theorem open_inv {s : Ds} (h : Inv np s.g now) (hf : ∀ j : Nat, s.f (j : Int) = none) (hnp : np ≤ 64) : Opn np now s (openM np s) := by
  by_cases ho : s.pm = .off
  · have e : openM np s = (6, s) := by unfold openM; rw [ho]
    rw [e]
    exact ⟨(fun h => by cases h), fun _ => h.safe hf, (fun h2 => by rw [ho] at h2; cases h2)⟩
  rcases h with ⟨h1, h2⟩ | ⟨k, hk, h1, h2, h3, h4⟩
  · have e : openM np s = (0, s) := by
      unfold openM
      have hz : allZ (Dv.txt (vw s 0)) = true := by rw [vw_none hf, show s.g 0 = _ from h1]; exact note_zero
      cases hp : s.pm with
      | off => exact absurd hp ho
      | on => simp only [hz]; rfl
      | arm i => simp only [hz]; rfl
    rw [e]
    exact ⟨fun _ => ⟨h1, h2, hf⟩, (fun h => absurd rfl h), fun h2 => ⟨rfl, h2⟩⟩
  · have hb : txt4 (vw s) 1 = pgBytes k (now k).1 (now k).2 := by rw [vw_none hf]; exact txt4_sec (pg_size h2) h3
    have hr := readOf_bytes h2
    have e : openM np s = (er (settleM k (pgBytes k (now k).1 (now k).2) s).1, (settleM k (pgBytes k (now k).1 (now k).2) s).2) := by
      unfold openM
      have hz : allZ (Dv.txt (vw s 0)) = false := by rw [vw_none hf, show s.g 0 = _ from h1]; exact note_some _ (by omega) (by omega)
      have ht : takeOf (Dv.txt (vw s 0)) 1 = some (k + 1, bstr (List.replicate 63 0)) := by rw [vw_none hf, show s.g 0 = _ from h1]; exact note_take _ (by omega)
      have hc : ¬ (k + 1 < 1 ∨ np < k + 1 ∨ allZ (bstr (List.replicate 63 0)) = false) := fun e => by
        rcases e with e | e | e
        · omega
        · omega
        · rw [allZ_yes] at e; cases e
      cases hp : s.pm with
      | off => exact absurd hp ho
      | on => simp only [hz, ht, if_neg hc, hb, hr, Int.toNat_natCast]; rfl
      | arm i => simp only [hz, ht, if_neg hc, hb, hr, Int.toNat_natCast]; rfl
    have hC : StC np now k (now k) 0 s := ⟨h1, h4, h3, fun j _ => hf j, fun _ hj => by omega⟩
    have hs := settleM_ht (now := now) hk h2 s hC
    rw [setPg_same] at hs
    rw [e]
    refine ⟨fun h => hs.1 ?_, fun h => hs.2 ?_, fun h => ?_⟩
    · cases hb : (settleM k (pgBytes k (now k).1 (now k).2) s).1 with
      | true => rfl
      | false => rw [hb] at h; cases h
    · cases hb : (settleM k (pgBytes k (now k).1 (now k).2) s).1 with
      | false => rfl
      | true => rw [hb] at h; exact absurd rfl h
    · obtain ⟨a, b⟩ := OnOk.settle k (pgBytes k (now k).1 (now k).2) s h
      exact ⟨er_t a, b⟩
/-- A new device of pages: all of them are empty. -/
theorem still_new : Still np (fun _ => (0, [])) dsNew := ⟨by
    show Dv.blank64 = Dv.pad (noteL 0)
    unfold Dv.blank64 noteL Dv.pad
    rw [be_one1 0 (by omega)]; rfl, fun k _ _ => .inl ⟨by
    show bstr (Dv.blank64 ++ Dv.blank64 ++ Dv.blank64 ++ Dv.blank64) = blank256
    decide +kernel, rfl⟩, fun _ => rfl⟩
theorem Still.armed {s : Ds} (h : Still np now s) (pm : Pm) : Still np now ⟨pm, s.g, s.f⟩ := ⟨h.note, h.homes, h.loose⟩
end
end Go.Proofs.YtaegpniagpehcaaGreatDoor
