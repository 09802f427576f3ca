/-
  THE CONTRACT OF twice's Store: pages one by one, up to the first that is refused.
-/
import Derived.Test.YtkemhkmabbladaaGreatDoorTwStore
namespace Go.Proofs.YtkemhkmabbladaaGreatDoor
open Go.RowKit
/-- A page as a value: its number, its Gsn, where its cells are, what they read as. -/
structure PgV where
  no : Int
  g : Int
  a : Option Addr
  c : Nat
  l : List (ByteArray × ByteArray)
def noPg : PgV := ⟨0, 0, none, 0, []⟩
/-- A slice of pages. -/
def PgsAt (W : World) (a : Option Addr) (ps : List PgV) : Prop :=
  ps = [] ∨ ∃ b off, a = some ⟨b, off, none⟩ ∧ ∀ i, i < ps.length → W.cell? ⟨b, off + i * 3, none⟩ = some (.int .i64 (ps.getD i noPg).no) ∧ W.cell? ⟨b, off + i * 3 + 1, none⟩ = some (.int .i64 (ps.getD i noPg).g) ∧
    W.cell? ⟨b, off + i * 3 + 2, none⟩ = some (.slice (ps.getD i noPg).a (ps.getD i noPg).l.length (ps.getD i noPg).c) ∧ ClsAt W (ps.getD i noPg).a (ps.getD i noPg).l
theorem PgsAt.below {W X : World} {a : Option Addr} {ps : List PgV} (h : PgsAt W a ps) (hb : Below W.heap.size W X) : PgsAt X a ps := by
  rcases h with h | ⟨b, off, e, h⟩
  · exact .inl h
  · exact .inr ⟨b, off, e, fun i hi => ⟨Dv.keep_cell hb (h i hi).1, Dv.keep_cell hb (h i hi).2.1, Dv.keep_cell hb (h i hi).2.2.1, (h i hi).2.2.2.below hb⟩⟩
/-- What a Store of one page answers, and leaves. -/
def st1 (pages : Nat) (q : PgV) (s : Ds) : Int × Ds :=
  if pgOk q.no q.g q.l = true ∧ q.no < (pages : Int) then (er (storeM q.no.toNat (pgBytes q.no q.g q.l) s).1, (storeM q.no.toNat (pgBytes q.no q.g q.l) s).2) else (1, s)
def stL (pages : Nat) : List PgV → Ds → Int × Ds
  | [], s => (0, s)
  | q :: r, s => if (st1 pages q s).1 = 0 then stL pages r (st1 pages q s).2 else st1 pages q s
section
variable {w W : World} {D P L M n B T pages : Nat} {s : Ds}
/-- What a call answers, and leaves. -/
def TwE (w W : World) (D P L M n B T pages : Nat) (o : Int × Ds) (x : Ending) (w' : World) : Prop := x = .returned (.int .i64 o.1) ∧ TwS w w' D P L M n B T pages o.2 ∧ Dv.Fr3 P L M W w'
theorem store_1 (h : TwS w W D P L M n B T pages s) (hB : B + 14 ≤ 900000) (hn : n ≤ 4096) (hfit : 5 + 4 * pages ≤ n) (q : PgV) (hl : q.l.length ≤ maxLen) (ha : ClsAt W q.a q.l) :
    Calls Tryz.prog 78 #[.pointer (some ⟨T, 0, none⟩), .agg #[.int .i64 q.no, .int .i64 q.g, .slice q.a q.l.length q.c]] W (TwE w W D P L M n (B + 14) T pages (st1 pages q s)) := by
  cases ho : pgOk q.no q.g q.l with
  | false =>
    have e : st1 pages q s = (1, s) := by unfold st1; rw [if_neg (by rw [ho]; intro h; cases h.1)]
    rw [e]
    refine (store_bad T q.no q.g q.a q.l q.c ha hl ho).mono ?_
    rintro x w' ⟨rfl, hb⟩
    exact ⟨rfl, (h.below hb).more (by omega), Dv.Fr3.of_below hb⟩
  | true =>
    by_cases hf : q.no < (pages : Int)
    · have h0 := (pgOk_parts ho).1
      obtain ⟨k, hk⟩ : ∃ k : Nat, q.no = (k : Int) := ⟨q.no.toNat, by omega⟩
      have e : st1 pages q s = (er (storeM k (pgBytes q.no q.g q.l) s).1, (storeM k (pgBytes q.no q.g q.l) s).2) := by
        unfold st1; rw [if_pos ⟨ho, hf⟩, hk, Int.toNat_natCast]
      rw [e]
      rw [hk] at ho hf ⊢
      exact store_ok h hB hn hfit k q.g q.a q.l q.c ha (by omega) ho
    · have e : st1 pages q s = (1, s) := by unfold st1; rw [if_neg (fun h => hf h.2)]
      rw [e]
      refine (store_far h q.no q.g q.a q.l q.c ha (by omega) ho).mono ?_
      rintro x w' ⟨rfl, hb⟩
      exact ⟨rfl, (h.below hb).more (by omega), Dv.Fr3.of_below hb⟩
theorem store_nil (a : Option Addr) (m c : Nat) (W : World) : Calls Tryz.prog 49 #[.pointer none, .slice a m c] W fun x w' => x = .returned (.int .i64 1) ∧ W = w' := by
  go_enter Tryz.func49, Tryz.ntmps49
  go_wp2
  go_ret
  exact ⟨rfl, rfl⟩
set_option maxRecDepth 100000 in
set_option maxHeartbeats 4000000 in
theorem store_l (h : TwS w W D P L M n B T pages s) (hn : n ≤ 4096) (hfit : 5 + 4 * pages ≤ n) (a : Option Addr) (ps : List PgV) (c : Nat) (hB : B + 14 * ps.length ≤ 900000) (hps : ∀ W1, Dv.Fr3 P L M W W1 → PgsAt W1 a ps) (hl : ∀ i, (ps.getD i noPg).l.length ≤ maxLen) :
    Calls Tryz.prog 49 #[.pointer (some ⟨T, 0, none⟩), .slice a ps.length c] W (TwE w W D P L M n (B + 14 * ps.length) T pages (stL pages ps s)) := by
  obtain ⟨O, hO⟩ : ∃ O, stL pages ps s = O := ⟨_, rfl⟩
  rw [hO]
  have HO : Hid (stL pages (ps.drop 0) s = O) := hO
  clear hO
  have H0 : Hid (TwS w W D P L M n (B + 14 * 0) T pages s) := h
  have F0 : Hid (Dv.Fr3 P L M W W) := Dv.Fr3.refl ..
  have HPS := Lib.hid hps
  have HLL := Lib.hid hl
  have hm : ps.length ≤ 100000 := by omega
  clear h hps hl
  go_enter Tryz.func49, Tryz.ntmps49
  go_wp2
  go_loopw [12] (fun i wr => ∃ (k : Nat) (s1 : Ds), k ≤ ps.length ∧ i = .int .i64 k ∧ Hid (stL pages (ps.drop k) s1 = O) ∧ Hid (TwS w wr D P L M n (B + 14 * k) T pages s1) ∧ Hid (Dv.Fr3 P L M W wr)) (fun i _ => ps.length - (intOf i).toNat)
  case atStart => exact ⟨0, s, Nat.zero_le _, rfl, HO, H0, F0⟩
  case round =>
    obtain ⟨k, s1, hk, rfl, HL, HS, HF⟩ := hrel
    rename World => wa
    clear HO H0 F0
    have hk0 : (0 : Int) ≤ (k : Int) := by omega
    by_cases hlt : k < ps.length
    · have hk1 : (k : Int) < (ps.length : Int) := by omega
      obtain ⟨q, hq⟩ : ∃ q, q = ps.getD k noPg := ⟨_, rfl⟩
      have hd : ps.drop k = q :: ps.drop (k + 1) := by
        rw [List.drop_eq_getElem_cons hlt, hq, List.getD_eq_getElem?_getD, List.getElem?_eq_getElem hlt]; rfl
      have HL1 : Hid ((if (st1 pages q s1).1 = 0 then stL pages (ps.drop (k + 1)) (st1 pages q s1).2 else st1 pages q s1) = O) := by
        have := HL.out
        rw [hd] at this
        exact this
      rcases HPS.out wa HF.out with hnil | ⟨b, off, rfl, hcs⟩
      · rw [hnil] at hlt; exact absurd hlt (Nat.not_lt_zero _)
      have hlq := HLL.out k
      obtain ⟨c0, c1, c2, hcl⟩ := hcs k hlt
      rw [← hq] at c0 c1 c2 hcl hlq
      have hba := (Below.refl wa.heap.size wa).alloc (Nat.le_refl _) (.cells #[.int .i64 q.no, .int .i64 q.g, .slice q.a q.l.length q.c] 36)
      have KS := Lib.hid (store_1 (HS.out.below hba) (by omega) hn hfit q hlq (hcl.below hba))
      have F1 := Lib.hid (HF.out.trans (Dv.Fr3.of_below hba))
      clear hd hq HL HS HF hba hcl hcs hlq
      obtain ⟨qn, hqn⟩ : ∃ z, z = q.no := ⟨_, rfl⟩
      obtain ⟨qg, hqg⟩ : ∃ z, z = q.g := ⟨_, rfl⟩
      obtain ⟨qa, hqa⟩ : ∃ z, z = q.a := ⟨_, rfl⟩
      obtain ⟨qm, hqm⟩ : ∃ z, z = q.l.length := ⟨_, rfl⟩
      obtain ⟨qc, hqc⟩ : ∃ z, z = q.c := ⟨_, rfl⟩
      by_cases he : (st1 pages q s1).1 = 0
      · have HL2 : Hid (stL pages (ps.drop (k + 1)) (st1 pages q s1).2 = O) := by have := HL1.out; rw [if_pos he] at this; exact this
        have KS2 := Lib.hid (KS.out.mono fun x w' (hh : TwE _ _ _ _ _ _ _ _ _ _ _ x w') => (⟨by rw [← he]; exact hh.1, hh.2⟩ : x = .returned (.int .i64 0) ∧ TwS w w' D P L M n (B + 14 * k + 14) T pages (st1 pages q s1).2 ∧ Dv.Fr3 P L M _ w'))
        clear KS HL1 he
        rw [← hqn, ← hqg, ← hqa, ← hqm, ← hqc] at KS2
        rw [← hqn] at c0
        rw [← hqg] at c1
        rw [← hqa, ← hqm, ← hqc] at c2
        rw [← hqn, ← hqg, ← hqa, ← hqm, ← hqc] at F1
        generalize (st1 pages q s1).2 = s2 at *
        clear hqn hqg hqa hqm hqc
        go_wp2_with fail
        refine KS2.out.mono ?_
        rintro x w2 ⟨rfl, hs2, hf2⟩
        have S2 : Hid (TwS w w2 D P L M n (B + 14 * (k + 1)) T pages s2) := hs2.more (by omega)
        have F2 := Lib.hid (F1.out.trans hf2)
        clear hs2 hf2 KS2 F1 c0 c1 c2
        go_wp2
        go_roundw
        case rel => exact ⟨k + 1, s2, by omega, by go_num, HL2, S2, F2⟩
        case measure => simp [intOf]; omega
      · have HL2 : Hid (st1 pages q s1 = O) := by have := HL1.out; rw [if_neg he] at this; exact this
        rw [HL2.out] at KS he
        clear HL1
        obtain ⟨e, s2⟩ := O
        have KS2 := Lib.hid (KS.out.mono fun x w' (hh : TwE _ _ _ _ _ _ _ _ _ _ _ x w') => (hh : x = .returned (.int .i64 e) ∧ TwS w w' D P L M n (B + 14 * k + 14) T pages s2 ∧ Dv.Fr3 P L M _ w'))
        have he2 : e ≠ 0 := he
        clear KS he
        rw [← hqn, ← hqg, ← hqa, ← hqm, ← hqc] at KS2
        rw [← hqn] at c0
        rw [← hqg] at c1
        rw [← hqa, ← hqm, ← hqc] at c2
        rw [← hqn, ← hqg, ← hqa, ← hqm, ← hqc] at F1
        clear hqn hqg hqa hqm hqc HL2
        go_wp2_with fail
        refine KS2.out.mono ?_
        rintro x w2 ⟨rfl, hs2, hf2⟩
        have S2 : Hid (TwS w w2 D P L M n (B + 14 * ps.length) T pages s2) := hs2.more (by omega)
        have F2 := Lib.hid (F1.out.trans hf2)
        clear hs2 hf2 KS2 F1 c0 c1 c2
        go_wp2
        go_ret
        exact ⟨rfl, S2.out, F2.out⟩
    · have hk1 : (ps.length : Int) ≤ (k : Int) := by omega
      have hkl : k = ps.length := by omega
      have HL2 : Hid (((0 : Int), s1) = O) := by have := HL.out; rw [hkl, List.drop_length] at this; exact this
      have S2 : Hid (TwS w wa D P L M n (B + 14 * ps.length) T pages s1) := HS.out.more (by omega)
      clear HL HS hkl
      go_wp2
      go_ret
      exact ⟨by rw [← HL2.out]; rfl, by rw [← HL2.out]; exact S2.out, HF.out⟩
end
end Go.Proofs.YtkemhkmabbladaaGreatDoor
