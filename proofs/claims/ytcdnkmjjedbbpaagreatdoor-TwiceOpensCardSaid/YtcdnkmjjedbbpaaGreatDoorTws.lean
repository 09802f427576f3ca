/-
  THE CONTRACT OF twice's Store: pages one by one, up to the first that is refused.
  THE CONTRACT OF twice's Page and Pages: what a page's sectors hold.
  THE CONTRACTS OF twice's Need, fits, Format.
-/
import Derived.Test.YtcdnkmjjedbbpaaGreatDoorTwt
namespace Go.Proofs.YtcdnkmjjedbbpaaGreatDoor
open Go.RowKit
/-- A page as a value: its number, its Gsn, where its cells are, what they read as. -/
structure PgV where
  no : Int
  g : Int
  a : Option Addr
  c : Nat
  l : List (ByteArray × ByteArray)
def noPg : PgV := ⟨0, 0, none, 0, []⟩
/-- A slice of pages. -/
def PgsAt (W : World) (a : Option Addr) (ps : List PgV) : Prop :=
  ps = [] ∨ ∃ b off, a = some ⟨b, off, none⟩ ∧ ∀ i, i < ps.length → W.cell? ⟨b, off + i * 3, none⟩ = some (.int .i64 (ps.getD i noPg).no) ∧ W.cell? ⟨b, off + i * 3 + 1, none⟩ = some (.int .i64 (ps.getD i noPg).g) ∧
    W.cell? ⟨b, off + i * 3 + 2, none⟩ = some (.slice (ps.getD i noPg).a (ps.getD i noPg).l.length (ps.getD i noPg).c) ∧ ClsAt W (ps.getD i noPg).a (ps.getD i noPg).l
theorem PgsAt.below {W X : World} {a : Option Addr} {ps : List PgV} (h : PgsAt W a ps) (hb : Below W.heap.size W X) : PgsAt X a ps := by
  rcases h with h | ⟨b, off, e, h⟩
  · exact .inl h
  · exact .inr ⟨b, off, e, fun i hi => ⟨Dv.keep_cell hb (h i hi).1, Dv.keep_cell hb (h i hi).2.1, Dv.keep_cell hb (h i hi).2.2.1, (h i hi).2.2.2.below hb⟩⟩
/-- What a Store of one page answers, and leaves. -/
def st1 (pages : Nat) (q : PgV) (s : Ds) : Int × Ds :=
  if pgOk q.no q.g q.l = true ∧ q.no < (pages : Int) then (er (storeM q.no.toNat (pgBytes q.no q.g q.l) s).1, (storeM q.no.toNat (pgBytes q.no q.g q.l) s).2) else (1, s)
def stL (pages : Nat) : List PgV → Ds → Int × Ds
  | [], s => (0, s)
  | q :: r, s => if (st1 pages q s).1 = 0 then stL pages r (st1 pages q s).2 else st1 pages q s
section
variable {w W : World} {D P L M n B T pages : Nat} {s : Ds}
/-- What a call answers, and leaves. -/
def TwE (w W : World) (D P L M n B T pages : Nat) (o : Int × Ds) (x : Ending) (w' : World) : Prop := x = .returned (.int .i64 o.1) ∧ TwS w w' D P L M n B T pages o.2 ∧ Dv.Fr3 P L M W w'
theorem store_1 (h : TwS w W D P L M n B T pages s) (hB : B + 14 ≤ 900000) (hn : n ≤ 4096) (hfit : 5 + 4 * pages ≤ n) (q : PgV) (hl : q.l.length ≤ maxLen) (ha : ClsAt W q.a q.l) :
    Calls Tryz.prog 32 #[.pointer (some ⟨T, 0, none⟩), .agg #[.int .i64 q.no, .int .i64 q.g, .slice q.a q.l.length q.c]] W (TwE w W D P L M n (B + 14) T pages (st1 pages q s)) := by
  cases ho : pgOk q.no q.g q.l with
  | false =>
    have e : st1 pages q s = (1, s) := by unfold st1; rw [if_neg (by rw [ho]; intro h; cases h.1)]
    rw [e]
    refine (store_bad T q.no q.g q.a q.l q.c ha hl ho).mono ?_
    rintro x w' ⟨rfl, hb⟩
    exact ⟨rfl, (h.below hb).more (by omega), Dv.Fr3.of_below hb⟩
  | true =>
    by_cases hf : q.no < (pages : Int)
    · have h0 := (pgOk_parts ho).1
      obtain ⟨k, hk⟩ : ∃ k : Nat, q.no = (k : Int) := ⟨q.no.toNat, by omega⟩
      have e : st1 pages q s = (er (storeM k (pgBytes q.no q.g q.l) s).1, (storeM k (pgBytes q.no q.g q.l) s).2) := by
        unfold st1; rw [if_pos ⟨ho, hf⟩, hk, Int.toNat_natCast]
      rw [e]
      rw [hk] at ho hf ⊢
      exact store_ok h hB hn hfit k q.g q.a q.l q.c ha (by omega) ho
    · have e : st1 pages q s = (1, s) := by unfold st1; rw [if_neg (fun h => hf h.2)]
      rw [e]
      refine (store_far h q.no q.g q.a q.l q.c ha (by omega) ho).mono ?_
      rintro x w' ⟨rfl, hb⟩
      exact ⟨rfl, (h.below hb).more (by omega), Dv.Fr3.of_below hb⟩
theorem store_nil (a : Option Addr) (m c : Nat) (W : World) : Calls Tryz.prog 12 #[.pointer none, .slice a m c] W fun x w' => x = .returned (.int .i64 1) ∧ W = w' := by
  go_enter Tryz.func12, Tryz.ntmps12
  go_wp2
  go_ret
  exact ⟨rfl, rfl⟩
set_option maxRecDepth 100000 in
set_option maxHeartbeats 4000000 in
theorem store_l (h : TwS w W D P L M n B T pages s) (hn : n ≤ 4096) (hfit : 5 + 4 * pages ≤ n) (a : Option Addr) (ps : List PgV) (c : Nat) (hB : B + 14 * ps.length ≤ 900000) (hps : ∀ W1, Dv.Fr3 P L M W W1 → PgsAt W1 a ps) (hl : ∀ i, (ps.getD i noPg).l.length ≤ maxLen) :
    Calls Tryz.prog 12 #[.pointer (some ⟨T, 0, none⟩), .slice a ps.length c] W (TwE w W D P L M n (B + 14 * ps.length) T pages (stL pages ps s)) := by
  obtain ⟨O, hO⟩ : ∃ O, stL pages ps s = O := ⟨_, rfl⟩
  rw [hO]
  have HO : Hid (stL pages (ps.drop 0) s = O) := hO
  clear hO
  have H0 : Hid (TwS w W D P L M n (B + 14 * 0) T pages s) := h
  have F0 : Hid (Dv.Fr3 P L M W W) := Dv.Fr3.refl ..
  have HPS := Lib.hid hps
  have HLL := Lib.hid hl
  have hm : ps.length ≤ 100000 := by omega
  clear h hps hl
  go_enter Tryz.func12, Tryz.ntmps12
  go_wp2
  go_loopw [12] (fun i wr => ∃ (k : Nat) (s1 : Ds), k ≤ ps.length ∧ i = .int .i64 k ∧ Hid (stL pages (ps.drop k) s1 = O) ∧ Hid (TwS w wr D P L M n (B + 14 * k) T pages s1) ∧ Hid (Dv.Fr3 P L M W wr)) (fun i _ => ps.length - (intOf i).toNat)
  case atStart => exact ⟨0, s, Nat.zero_le _, rfl, HO, H0, F0⟩
  case round =>
    obtain ⟨k, s1, hk, rfl, HL, HS, HF⟩ := hrel
    rename World => wa
    clear HO H0 F0
    have hk0 : (0 : Int) ≤ (k : Int) := by omega
    by_cases hlt : k < ps.length
    · have hk1 : (k : Int) < (ps.length : Int) := by omega
      obtain ⟨q, hq⟩ : ∃ q, q = ps.getD k noPg := ⟨_, rfl⟩
      have hd : ps.drop k = q :: ps.drop (k + 1) := by
        rw [List.drop_eq_getElem_cons hlt, hq, List.getD_eq_getElem?_getD, List.getElem?_eq_getElem hlt]; rfl
      have HL1 : Hid ((if (st1 pages q s1).1 = 0 then stL pages (ps.drop (k + 1)) (st1 pages q s1).2 else st1 pages q s1) = O) := by
        have := HL.out
        rw [hd] at this
        exact this
      rcases HPS.out wa HF.out with hnil | ⟨b, off, rfl, hcs⟩
      · rw [hnil] at hlt; exact absurd hlt (Nat.not_lt_zero _)
      have hlq := HLL.out k
      obtain ⟨c0, c1, c2, hcl⟩ := hcs k hlt
      rw [← hq] at c0 c1 c2 hcl hlq
      have hba := (Below.refl wa.heap.size wa).alloc (Nat.le_refl _) (.cells #[.int .i64 q.no, .int .i64 q.g, .slice q.a q.l.length q.c] 36)
      have KS := Lib.hid (store_1 (HS.out.below hba) (by omega) hn hfit q hlq (hcl.below hba))
      have F1 := Lib.hid (HF.out.trans (Dv.Fr3.of_below hba))
      clear hd hq HL HS HF hba hcl hcs hlq
      obtain ⟨qn, hqn⟩ : ∃ z, z = q.no := ⟨_, rfl⟩
      obtain ⟨qg, hqg⟩ : ∃ z, z = q.g := ⟨_, rfl⟩
      obtain ⟨qa, hqa⟩ : ∃ z, z = q.a := ⟨_, rfl⟩
      obtain ⟨qm, hqm⟩ : ∃ z, z = q.l.length := ⟨_, rfl⟩
      obtain ⟨qc, hqc⟩ : ∃ z, z = q.c := ⟨_, rfl⟩
      by_cases he : (st1 pages q s1).1 = 0
      · have HL2 : Hid (stL pages (ps.drop (k + 1)) (st1 pages q s1).2 = O) := by have := HL1.out; rw [if_pos he] at this; exact this
        have KS2 := Lib.hid (KS.out.mono fun x w' (hh : TwE _ _ _ _ _ _ _ _ _ _ _ x w') => (⟨by rw [← he]; exact hh.1, hh.2⟩ : x = .returned (.int .i64 0) ∧ TwS w w' D P L M n (B + 14 * k + 14) T pages (st1 pages q s1).2 ∧ Dv.Fr3 P L M _ w'))
        clear KS HL1 he
        rw [← hqn, ← hqg, ← hqa, ← hqm, ← hqc] at KS2
        rw [← hqn] at c0
        rw [← hqg] at c1
        rw [← hqa, ← hqm, ← hqc] at c2
        rw [← hqn, ← hqg, ← hqa, ← hqm, ← hqc] at F1
        generalize (st1 pages q s1).2 = s2 at *
        clear hqn hqg hqa hqm hqc
        go_wp2_with fail
        refine KS2.out.mono ?_
        rintro x w2 ⟨rfl, hs2, hf2⟩
        have S2 : Hid (TwS w w2 D P L M n (B + 14 * (k + 1)) T pages s2) := hs2.more (by omega)
        have F2 := Lib.hid (F1.out.trans hf2)
        clear hs2 hf2 KS2 F1 c0 c1 c2
        go_wp2
        go_roundw
        case rel => exact ⟨k + 1, s2, by omega, by go_num, HL2, S2, F2⟩
        case measure => simp [intOf]; omega
      · have HL2 : Hid (st1 pages q s1 = O) := by have := HL1.out; rw [if_neg he] at this; exact this
        rw [HL2.out] at KS he
        clear HL1
        obtain ⟨e, s2⟩ := O
        have KS2 := Lib.hid (KS.out.mono fun x w' (hh : TwE _ _ _ _ _ _ _ _ _ _ _ x w') => (hh : x = .returned (.int .i64 e) ∧ TwS w w' D P L M n (B + 14 * k + 14) T pages s2 ∧ Dv.Fr3 P L M _ w'))
        have he2 : e ≠ 0 := he
        clear KS he
        rw [← hqn, ← hqg, ← hqa, ← hqm, ← hqc] at KS2
        rw [← hqn] at c0
        rw [← hqg] at c1
        rw [← hqa, ← hqm, ← hqc] at c2
        rw [← hqn, ← hqg, ← hqa, ← hqm, ← hqc] at F1
        clear hqn hqg hqa hqm hqc HL2
        go_wp2_with fail
        refine KS2.out.mono ?_
        rintro x w2 ⟨rfl, hs2, hf2⟩
        have S2 : Hid (TwS w w2 D P L M n (B + 14 * ps.length) T pages s2) := hs2.more (by omega)
        have F2 := Lib.hid (F1.out.trans hf2)
        clear hs2 hf2 KS2 F1 c0 c1 c2
        go_wp2
        go_ret
        exact ⟨rfl, S2.out, F2.out⟩
    · have hk1 : (ps.length : Int) ≤ (k : Int) := by omega
      have hkl : k = ps.length := by omega
      have HL2 : Hid (((0 : Int), s1) = O) := by have := HL.out; rw [hkl, List.drop_length] at this; exact this
      have S2 : Hid (TwS w wa D P L M n (B + 14 * ps.length) T pages s1) := HS.out.more (by omega)
      clear HL HS hkl
      go_wp2
      go_ret
      exact ⟨by rw [← HL2.out]; rfl, by rw [← HL2.out]; exact S2.out, HF.out⟩
end
end Go.Proofs.YtcdnkmjjedbbpaaGreatDoor

namespace Go.Proofs.YtcdnkmjjedbbpaaGreatDoor
open Go.RowKit
/-- What a page's sectors hold; none: it can't be. -/
def pgAt (t : ByteArray) (k : Nat) : Option (Nat × List (ByteArray × ByteArray)) :=
  if allZ t = true then some (0, []) else match readOf t with
  | some (no, g, l) => if no = k then some (g, l) else none
  | none => none
/-- What Page answers. -/
def PgAns (W : World) (k : Nat) (o : Option (Nat × List (ByteArray × ByteArray))) (x : Ending) (w' : World) : Prop :=
  match o with
  | none => x = .returned (.tuple #[.agg #[.int .i64 0, .int .i64 0, .slice none 0 0], .int .i64 9]) ∧ Below W.heap.size W w'
  | some (g, l) => ∃ a c, x = .returned (.tuple #[.agg #[.int .i64 (k : Int), .int .i64 (g : Int), .slice a l.length c], .int .i64 0]) ∧ RowC w' W.heap.size (.slice a l.length c) l ∧ Below W.heap.size W w'
def Pg0 (W : World) (e : Int) (x : Ending) (w' : World) : Prop := x = .returned (.tuple #[.agg #[.int .i64 0, .int .i64 0, .slice none 0 0], .int .i64 e]) ∧ Below W.heap.size W w'
section
variable {w W : World} {D P L M n B T pages : Nat} {s : Ds}
theorem pages_s (h : TwS w W D P L M n B T pages s) : Calls Tryz.prog 24 #[.pointer (some ⟨T, 0, none⟩)] W fun x w' => x = .returned (.int .i64 (pages : Int)) ∧ W = w' := by
  have ht := h.t1
  clear h
  go_enter Tryz.func24, Tryz.ntmps24
  go_wp2
  go_ret
  exact ⟨rfl, rfl⟩
theorem pages_nil (W : World) : Calls Tryz.prog 24 #[.pointer none] W fun x w' => x = .returned (.int .i64 0) ∧ W = w' := by
  go_enter Tryz.func24, Tryz.ntmps24
  go_wp2
  go_ret
  exact ⟨rfl, rfl⟩
theorem page_nil (no : Int) (W : World) : Calls Tryz.prog 19 #[.pointer none, .int .i64 no] W (Pg0 W 1) := by
  have HR0 := Lib.hid (tkR_new W 36)
  go_enter Tryz.func19, Tryz.ntmps19
  go_upto_region 1 with fail
  generalize W.alloc (.cells #[.int .i64 0, .int .i64 0, .slice none 0 0] 36) = X0 at *
  obtain ⟨r0, r1, r2, rf, bw⟩ := HR0.out
  go_wp2
  obtain ⟨X, hX, x0, x1, x2, hbX, _⟩ := set3 (v0 := .int .i64 0) (v1 := .int .i64 0) (v2 := .slice none 0 0) bw (Nat.le_refl _) r0 r1 r2
  rw [← hX]
  refine bodyPost_ret (v := .tuple #[.agg #[.int .i64 0, .int .i64 0, .slice none 0 0], .int .i64 1]) ?_ rfl ⟨rfl, hbX⟩
  simp [results, Tryz.results19, go_sem, x0, x1, x2]
/-- No such page. -/
theorem page_out (h : TwS w W D P L M n B T pages s) (no : Int) (hno : no < 0 ∨ (pages : Int) ≤ no) : Calls Tryz.prog 19 #[.pointer (some ⟨T, 0, none⟩), .int .i64 no] W (Pg0 W 7) := by
  have HR0 := Lib.hid (tkR_new W 36)
  have ht := (h.below ((Below.refl W.heap.size W).alloc (Nat.le_refl _) (.cells #[.int .i64 0, .int .i64 0, .slice none 0 0] 36))).t1
  clear h
  go_enter Tryz.func19, Tryz.ntmps19
  go_upto_region 1 with fail
  generalize W.alloc (.cells #[.int .i64 0, .int .i64 0, .slice none 0 0] 36) = X0 at *
  obtain ⟨r0, r1, r2, rf, bw⟩ := HR0.out
  by_cases h0 : no < 0
  · clear hno
    go_wp2
    obtain ⟨X, hX, x0, x1, x2, hbX, _⟩ := set3 (v0 := .int .i64 0) (v1 := .int .i64 0) (v2 := .slice none 0 0) bw (Nat.le_refl _) r0 r1 r2
    rw [← hX]
    refine bodyPost_ret (v := .tuple #[.agg #[.int .i64 0, .int .i64 0, .slice none 0 0], .int .i64 7]) ?_ rfl ⟨rfl, hbX⟩
    simp [results, Tryz.results19, go_sem, x0, x1, x2]
  · have h1 : (pages : Int) ≤ no := by omega
    have h2 : 0 ≤ no := by omega
    clear hno
    go_wp2
    obtain ⟨X, hX, x0, x1, x2, hbX, _⟩ := set3 (v0 := .int .i64 0) (v1 := .int .i64 0) (v2 := .slice none 0 0) bw (Nat.le_refl _) r0 r1 r2
    rw [← hX]
    refine bodyPost_ret (v := .tuple #[.agg #[.int .i64 0, .int .i64 0, .slice none 0 0], .int .i64 7]) ?_ rfl ⟨rfl, hbX⟩
    simp [results, Tryz.results19, go_sem, x0, x1, x2]
/-- The power is off. -/
theorem page_off (h : TwS w W D P L M n B T pages s) (ho : s.pm = .off) (hn : n ≤ 4096) (hfit : 5 + 4 * pages ≤ n) (k : Nat) (hk : k < pages) : Calls Tryz.prog 19 #[.pointer (some ⟨T, 0, none⟩), .int .i64 (k : Int)] W (Pg0 W 6) := by
  have hba := (Below.refl W.heap.size W).alloc (Nat.le_refl _) (.cells #[.int .i64 0, .int .i64 0, .slice none 0 0] 36)
  have HR0 := Lib.hid (tkR_new W 36)
  have S0 := Lib.hid (h.below hba)
  have ht := S0.out.t1
  have KP := Lib.hid (fun W => place_big k (by omega) W)
  have KT := Lib.hid (text_off S0.out ho (place k) (by unfold place; omega) hn)
  have k0 : (0 : Int) ≤ (k : Int) := by omega
  have k1 : (k : Int) < (pages : Int) := by omega
  clear h hba hfit hk
  generalize place k = pl at *
  go_enter Tryz.func19, Tryz.ntmps19
  go_upto_region 1 with fail
  generalize W.alloc (.cells #[.int .i64 0, .int .i64 0, .slice none 0 0] 36) = X0 at *
  go_wp2_with fail
  refine (KP.out _).mono ?_
  rintro x w1 ⟨rfl, rfl⟩
  go_wp2_with fail
  refine KT.out.mono ?_
  rintro x w2 ⟨rfl, hb2⟩
  obtain ⟨r0, r1, r2, rf, bw⟩ := HR0.out.below hb2
  clear hb2 HR0 KT KP S0 ht
  go_wp2
  obtain ⟨X, hX, x0, x1, x2, hbX, _⟩ := set3 (v0 := .int .i64 0) (v1 := .int .i64 0) (v2 := .slice none 0 0) bw (Nat.le_refl _) r0 r1 r2
  rw [← hX]
  refine bodyPost_ret (v := .tuple #[.agg #[.int .i64 0, .int .i64 0, .slice none 0 0], .int .i64 6]) ?_ rfl ⟨rfl, hbX⟩
  simp [results, Tryz.results19, go_sem, x0, x1, x2]
set_option maxRecDepth 100000 in
set_option maxHeartbeats 4000000 in
/-- A page that is there, the power being on. -/
theorem page_s (h : TwS w W D P L M n B T pages s) (hon : s.pm ≠ .off) (hn : n ≤ 4096) (hfit : 5 + 4 * pages ≤ n) (k : Nat) (hk : k < pages) : Calls Tryz.prog 19 #[.pointer (some ⟨T, 0, none⟩), .int .i64 (k : Int)] W (PgAns W k (pgAt (txt4 (vw s) (place k)) k)) := by
  have hba := (Below.refl W.heap.size W).alloc (Nat.le_refl _) (.cells #[.int .i64 0, .int .i64 0, .slice none 0 0] 36)
  have HR0 := Lib.hid (tkR_new W 36)
  have S0 := Lib.hid (h.below hba)
  have ht := S0.out.t1
  have KP := Lib.hid (fun W => place_big k (by omega) W)
  have KT := Lib.hid (text_s S0.out hon (place k) (by unfold place; omega) hn)
  have k0 : (0 : Int) ≤ (k : Int) := by omega
  have k1 : (k : Int) < (pages : Int) := by omega
  have hsz : (txt4 (vw s) (place k)).size ≤ 100000 := by
    have e : ∀ j, j < n → (vw s j).length = 64 := h.d.vlen
    unfold txt4 place
    rw [bstr_size, List.length_append, List.length_append, List.length_append, e _ (by omega), e _ (by omega), e _ (by omega), e _ (by omega)]
    omega
  have HT0 := Lib.hid S0.out.tabW
  clear h hba hfit hk
  generalize txt4 (vw s) (place k) = t at *
  have KB := Lib.hid (fun W => blank_any t hsz W)
  have KR := Lib.hid (fun W hT => read_any t W (by omega) hT)
  clear hsz
  generalize place k = pl at *
  cases hz : allZ t with
  | true =>
    have HO : pgAt t k = some (0, []) := by unfold pgAt; rw [if_pos hz]
    rw [HO]
    rw [hz] at KB
    clear hz HO KR
    go_enter Tryz.func19, Tryz.ntmps19
    go_upto_region 1 with fail
    generalize W.alloc (.cells #[.int .i64 0, .int .i64 0, .slice none 0 0] 36) = X0 at *
    go_wp2_with fail
    refine (KP.out _).mono ?_
    rintro x w1 ⟨rfl, rfl⟩
    go_wp2_with fail
    refine KT.out.mono ?_
    rintro x w2 ⟨rfl, hb2⟩
    have HR2 := Lib.hid (HR0.out.below hb2)
    clear hb2 HR0 KT KP S0 ht
    go_wp2_with fail
    refine (KB.out _).mono ?_
    rintro x w3 ⟨rfl, hb3⟩
    obtain ⟨r0, r1, r2, rf, bw⟩ := HR2.out.below hb3
    clear hb3 HR2 KB
    go_wp2
    obtain ⟨X, hX, x0, x1, x2, hbX, _⟩ := set3 (v0 := .int .i64 (k : Int)) (v1 := .int .i64 0) (v2 := .slice none 0 0) bw (Nat.le_refl _) r0 r1 r2
    rw [← hX]
    refine bodyPost_ret (v := .tuple #[.agg #[.int .i64 (k : Int), .int .i64 0, .slice none 0 0], .int .i64 0]) ?_ rfl ⟨none, 0, rfl, World.ownsRow_nil X _ _ _, hbX⟩
    simp [results, Tryz.results19, go_sem, x0, x1, x2]
  | false =>
    rw [hz] at KB
    cases hr : readOf t with
    | none =>
      have HO : pgAt t k = none := by unfold pgAt; rw [if_neg (by rw [hz]; decide), hr]
      rw [HO]
      rw [hr] at KR
      clear hz hr HO
      go_enter Tryz.func19, Tryz.ntmps19
      go_upto_region 1 with fail
      generalize W.alloc (.cells #[.int .i64 0, .int .i64 0, .slice none 0 0] 36) = X0 at *
      go_wp2_with fail
      refine (KP.out _).mono ?_
      rintro x w1 ⟨rfl, rfl⟩
      go_wp2_with fail
      refine KT.out.mono ?_
      rintro x w2 ⟨rfl, hb2⟩
      have HR2 := Lib.hid (HR0.out.below hb2)
      have HT2 := Lib.hid (HT0.out.below hb2)
      clear hb2 HR0 HT0 KT KP S0 ht
      go_wp2_with fail
      refine (KB.out _).mono ?_
      rintro x w3 ⟨rfl, hb3⟩
      have HR3 := Lib.hid (HR2.out.below hb3)
      have HT3 := Lib.hid (HT2.out.below hb3)
      clear hb3 HR2 KB HT2
      go_wp2_with fail
      refine (KR.out _ HT3.out).mono ?_
      rintro x w4 ⟨rfl, hb4⟩
      obtain ⟨r0, r1, r2, rf, bw⟩ := (HR3.out.below hb4).below ((Below.refl w4.heap.size w4).alloc (Nat.le_refl _) (.cells #[.int .i64 0, .int .i64 0, .slice none 0 0] 36))
      clear hb4 HR3 KR HT3
      go_upto_region 11 with fail
      generalize w4.alloc (.cells #[.int .i64 0, .int .i64 0, .slice none 0 0] 36) = Y at *
      go_wp2
      obtain ⟨X, hX, x0, x1, x2, hbX, _⟩ := set3 (v0 := .int .i64 0) (v1 := .int .i64 0) (v2 := .slice none 0 0) bw (Nat.le_refl _) r0 r1 r2
      rw [← hX]
      refine bodyPost_ret (v := .tuple #[.agg #[.int .i64 0, .int .i64 0, .slice none 0 0], .int .i64 9]) ?_ rfl ⟨rfl, hbX⟩
      simp [results, Tryz.results19, go_sem, x0, x1, x2]
    | some q =>
      obtain ⟨no, g, l⟩ := q
      rw [hr] at KR
      by_cases hno : no = k
      · subst hno
        have HO : pgAt t no = some (g, l) := by unfold pgAt; rw [if_neg (by rw [hz]; decide), hr]; exact if_pos rfl
        rw [HO]
        clear hz hr HO
        go_enter Tryz.func19, Tryz.ntmps19
        go_upto_region 1 with fail
        generalize W.alloc (.cells #[.int .i64 0, .int .i64 0, .slice none 0 0] 36) = X0 at *
        go_wp2_with fail
        refine (KP.out _).mono ?_
        rintro x w1 ⟨rfl, rfl⟩
        go_wp2_with fail
        refine KT.out.mono ?_
        rintro x w2 ⟨rfl, hb2⟩
        have HR2 := Lib.hid (HR0.out.below hb2)
        have HT2 := Lib.hid (HT0.out.below hb2)
        clear hb2 HR0 HT0 KT KP S0 ht
        go_wp2_with fail
        refine (KB.out _).mono ?_
        rintro x w3 ⟨rfl, hb3⟩
        have HR3 := Lib.hid (HR2.out.below hb3)
        have HT3 := Lib.hid (HT2.out.below hb3)
        clear hb3 HR2 KB HT2
        have hlt := Dv.block_lt HR3.out.r0
        go_wp2_with fail
        refine (KR.out _ HT3.out).mono ?_
        rintro x w4 ⟨a, c, rfl, hrow, hb4⟩
        have hby := (Below.refl w4.heap.size w4).alloc (Nat.le_refl _) (.cells #[.int .i64 (no : Int), .int .i64 (g : Int), .slice a l.length c] 36)
        obtain ⟨r0, r1, r2, rf, bw⟩ := (HR3.out.below hb4).below hby
        have HC := Lib.hid (hrow.below hby)
        have p0 : (w4.alloc (.cells #[.int .i64 (no : Int), .int .i64 (g : Int), .slice a l.length c] 36)).cell? ⟨w4.heap.size, 0, none⟩ = some (.int .i64 no) := Dv.new_cell rfl rfl
        have p1 : (w4.alloc (.cells #[.int .i64 (no : Int), .int .i64 (g : Int), .slice a l.length c] 36)).cell? ⟨w4.heap.size, 1, none⟩ = some (.int .i64 g) := Dv.new_cell rfl rfl
        have p2 : (w4.alloc (.cells #[.int .i64 (no : Int), .int .i64 (g : Int), .slice a l.length c] 36)).cell? ⟨w4.heap.size, 2, none⟩ = some (.slice a l.length c) := Dv.new_cell rfl rfl
        clear hb4 HR3 KR HT3 hby hrow
        go_upto_region 11 with fail
        generalize w4.alloc (.cells #[.int .i64 (no : Int), .int .i64 (g : Int), .slice a l.length c] 36) = Y at *
        go_wp2
        obtain ⟨X, hX, x0, x1, x2, hbX, hgX⟩ := set3 (v0 := .int .i64 no) (v1 := .int .i64 g) (v2 := .slice a l.length c) bw (Nat.le_refl _) r0 r1 r2
        rw [← hX]
        have RX : RowC X w3.heap.size (.slice a l.length c) l := World.ownsRow.kept HC.out hgX (by
          cases ho : (Value.slice a l.length c).ownBlock with
          | none => exact .inl rfl
          | some k => exact .inr (fun e => by
              injection e with e
              have := (HC.out.lt k ho).1
              have h2 : W.heap.size < w3.heap.size := hlt
              omega))
        refine bodyPost_ret (v := .tuple #[.agg #[.int .i64 (no : Int), .int .i64 g, .slice a l.length c], .int .i64 0]) ?_ rfl ⟨a, c, rfl, RX.base (by have h2 : W.heap.size < w3.heap.size := hlt; omega), hbX⟩
        simp [results, Tryz.results19, go_sem, x0, x1, x2]
      · have HO : pgAt t k = none := by unfold pgAt; rw [if_neg (by rw [hz]; decide), hr]; exact if_neg hno
        rw [HO]
        have hni : (no : Int) ≠ (k : Int) := by omega
        clear hz hr HO hno
        go_enter Tryz.func19, Tryz.ntmps19
        go_upto_region 1 with fail
        generalize W.alloc (.cells #[.int .i64 0, .int .i64 0, .slice none 0 0] 36) = X0 at *
        go_wp2_with fail
        refine (KP.out _).mono ?_
        rintro x w1 ⟨rfl, rfl⟩
        go_wp2_with fail
        refine KT.out.mono ?_
        rintro x w2 ⟨rfl, hb2⟩
        have HR2 := Lib.hid (HR0.out.below hb2)
        have HT2 := Lib.hid (HT0.out.below hb2)
        clear hb2 HR0 HT0 KT KP S0 ht
        go_wp2_with fail
        refine (KB.out _).mono ?_
        rintro x w3 ⟨rfl, hb3⟩
        have HR3 := Lib.hid (HR2.out.below hb3)
        have HT3 := Lib.hid (HT2.out.below hb3)
        clear hb3 HR2 KB HT2
        go_wp2_with fail
        refine (KR.out _ HT3.out).mono ?_
        rintro x w4 ⟨a, c, rfl, hrow, hb4⟩
        have hby := (Below.refl w4.heap.size w4).alloc (Nat.le_refl _) (.cells #[.int .i64 (no : Int), .int .i64 (g : Int), .slice a l.length c] 36)
        obtain ⟨r0, r1, r2, rf, bw⟩ := (HR3.out.below hb4).below hby
        have p0 : (w4.alloc (.cells #[.int .i64 (no : Int), .int .i64 (g : Int), .slice a l.length c] 36)).cell? ⟨w4.heap.size, 0, none⟩ = some (.int .i64 no) := Dv.new_cell rfl rfl
        clear hb4 HR3 KR HT3 hby hrow
        go_upto_region 11 with fail
        generalize w4.alloc (.cells #[.int .i64 (no : Int), .int .i64 (g : Int), .slice a l.length c] 36) = Y at *
        go_wp2
        obtain ⟨X, hX, x0, x1, x2, hbX, _⟩ := set3 (v0 := .int .i64 0) (v1 := .int .i64 0) (v2 := .slice none 0 0) bw (Nat.le_refl _) r0 r1 r2
        rw [← hX]
        refine bodyPost_ret (v := .tuple #[.agg #[.int .i64 0, .int .i64 0, .slice none 0 0], .int .i64 9]) ?_ rfl ⟨rfl, hbX⟩
        simp [results, Tryz.results19, go_sem, x0, x1, x2]
end
end Go.Proofs.YtcdnkmjjedbbpaaGreatDoor

namespace Go.Proofs.YtcdnkmjjedbbpaaGreatDoor
open Go.RowKit
/-- A device, since a world ahead of it. -/
structure DvB (w W : World) (D P L M n B : Nat) (s : Ds) : Prop where
  d : DvS W D P L M n B s
  bw : Below w.heap.size w W
  lo : w.heap.size ≤ P ∧ w.heap.size ≤ L ∧ w.heap.size ≤ M
  tab : Tab w
section
variable {w W : World} {D P L M n B T pages : Nat} {s : Ds}
theorem DvB.next {W' : World} {B' : Nat} {s' : Ds} (h : DvB w W D P L M n B s) (hd : DvS W' D P L M n B' s') (hf : Dv.Fr3 P L M W W') : DvB w W' D P L M n B' s' where
  d := hd
  bw := h.bw.trans (hf.below h.bw.size h.lo.1 h.lo.2.1 h.lo.2.2)
  lo := h.lo
  tab := h.tab
theorem DvB.below {X : World} (h : DvB w W D P L M n B s) (hb : Below W.heap.size W X) : DvB w X D P L M n B s := h.next (h.d.below hb) (Dv.Fr3.of_below hb)
theorem DvB.tw (h : DvB w W D P L M n B s) (pages : Nat) (Ty : TypeId) : TwS w (W.alloc (.cells #[.pointer (some ⟨D, 0, none⟩), .int .i64 (pages : Int)] Ty)) D P L M n B W.heap.size pages s := by
  have hb := (Below.refl W.heap.size W).alloc (Nat.le_refl _) (.cells #[.pointer (some ⟨D, 0, none⟩), .int .i64 (pages : Int)] Ty)
  have hl := h.d.lts
  have h2 := h.below hb
  exact ⟨h2.d, Dv.new_cell rfl rfl, Dv.new_cell rfl rfl, ⟨by omega, by omega, by omega⟩, h2.bw, h2.lo, h2.tab⟩
theorem TwS.b (h : TwS w W D P L M n B T pages s) : DvB w W D P L M n B s := ⟨h.d, h.bw, h.lo, h.tab⟩
theorem DvS.congr {pm : Pm} {g g2 : Nat → List UInt8} {f : Int → Option (List UInt8)} (h : DvS W D P L M n B ⟨pm, g, f⟩) (hg : ∀ j, j < n → g j = g2 j) : DvS W D P L M n B ⟨pm, g2, f⟩ := by
  obtain ⟨k, off, uses, armed, left, las, hd, hb, hp, hl, hf⟩ := h
  exact ⟨k, off, uses, armed, left, las, hd, hb, hp, fun j hj => (hl j hj).trans (hg j hj), hf⟩
def needV (p : Int) : Int := if 1 ≤ p ∧ p ≤ 64 then 5 + 4 * p else 0
theorem need_any (p : Int) (W : World) : Calls Tryz.prog 6 #[.int .i64 p] W fun x w' => x = .returned (.int .i64 (needV p)) ∧ W = w' := by
  by_cases h1 : p < 1
  · have e : needV p = 0 := by unfold needV; rw [if_neg (by omega)]
    rw [e]
    go_enter Tryz.func6, Tryz.ntmps6
    go_wp2
    go_ret
    exact ⟨rfl, rfl⟩
  · by_cases h2 : 64 < p
    · have e : needV p = 0 := by unfold needV; rw [if_neg (by omega)]
      rw [e]
      have h3 : 1 ≤ p := by omega
      go_enter Tryz.func6, Tryz.ntmps6
      go_wp2
      go_ret
      exact ⟨rfl, rfl⟩
    · have e : needV p = 5 + 4 * p := by unfold needV; rw [if_pos (by omega)]
      have h3 : 1 ≤ p := by omega
      have h4 : p ≤ 64 := by omega
      have KP := Lib.hid (fun W => place_big p.toNat (by omega) W)
      have e2 : ((place p.toNat : Nat) : Int) = needV p := by rw [e]; unfold place; omega
      rw [e2, Int.toNat_of_nonneg (by omega)] at KP
      generalize needV p = v at *
      clear e e2
      go_enter Tryz.func6, Tryz.ntmps6
      go_wp2_with fail
      refine (KP.out _).mono ?_
      rintro x w1 ⟨rfl, rfl⟩
      go_wp2
      go_ret
      exact ⟨rfl, rfl⟩
def fitsB (n : Nat) (p : Int) : Bool := decide (0 < needV p) && decide (needV p ≤ (n : Int))
theorem fits_dev (h : DvS W D P L M n B s) (p : Int) : Calls Tryz.prog 26 #[.pointer (some ⟨D, 0, none⟩), .int .i64 p] W fun x w' => x = .returned (.bool (fitsB n p)) ∧ W = w' := by
  have KN := Lib.hid (fun W => need_any p W)
  have KS := Lib.hid (sectors_s h)
  have HF : Hid (fitsB n p = (decide (0 < needV p) && decide (needV p ≤ (n : Int)))) := rfl
  clear h
  generalize fitsB n p = b at *
  generalize needV p = v at *
  by_cases h1 : 0 < v
  · have e : b = decide (v ≤ (n : Int)) := by rw [HF.out, decide_eq_true h1]; rfl
    rw [e]
    clear e HF
    go_enter Tryz.func26, Tryz.ntmps26
    go_wp2_with fail
    refine (KN.out _).mono ?_
    rintro x w1 ⟨rfl, rfl⟩
    go_wp2_with fail
    refine KS.out.mono ?_
    rintro x w1 ⟨rfl, rfl⟩
    go_wp2
    go_ret
    exact ⟨rfl, rfl⟩
  · have e : b = false := by rw [HF.out, decide_eq_false h1]; rfl
    subst e
    clear HF KS
    go_enter Tryz.func26, Tryz.ntmps26
    go_wp2_with fail
    refine (KN.out _).mono ?_
    rintro x w1 ⟨rfl, rfl⟩
    go_wp2
    go_ret
    exact ⟨rfl, rfl⟩
theorem fits_nil (p : Int) (W : World) : Calls Tryz.prog 26 #[.pointer none, .int .i64 p] W fun x w' => x = .returned (.bool false) ∧ W = w' := by
  have KN := Lib.hid (fun W => need_any p W)
  have KS := Lib.hid (fun W => Dv.sectors_nil W)
  generalize needV p = v at *
  by_cases h1 : 0 < v
  · have hv : decide (v ≤ 0) = false := decide_eq_false (by omega)
    go_enter Tryz.func26, Tryz.ntmps26
    go_wp2_with fail
    refine (KN.out _).mono ?_
    rintro x w1 ⟨rfl, rfl⟩
    go_wp2_with fail
    refine (KS.out _).mono ?_
    rintro x w1 ⟨rfl, rfl⟩
    go_wp2
    go_ret
    exact ⟨rfl, rfl⟩
  · go_enter Tryz.func26, Tryz.ntmps26
    go_wp2_with fail
    refine (KN.out _).mono ?_
    rintro x w1 ⟨rfl, rfl⟩
    go_wp2
    go_ret
    exact ⟨rfl, rfl⟩
theorem fits_yes {p : Nat} (h1 : 1 ≤ p) (h2 : p ≤ 64) (h3 : 5 + 4 * p ≤ n) : fitsB n (p : Int) = true := by
  unfold fitsB needV
  rw [if_pos (by omega), decide_eq_true (by omega), decide_eq_true (by omega)]; rfl
theorem fmt_bad (h : DvS W D P L M n B s) (p : Int) (hb : fitsB n p = false) : Calls Tryz.prog 7 #[.pointer (some ⟨D, 0, none⟩), .int .i64 p] W fun x w' => x = .returned (.tuple #[.pointer none, .int .i64 1]) ∧ W = w' := by
  have KF := Lib.hid (fits_dev h p)
  rw [hb] at KF
  clear h hb
  go_enter Tryz.func7, Tryz.ntmps7
  go_wp2_with fail
  refine KF.out.mono ?_
  rintro x w1 ⟨rfl, rfl⟩
  go_wp2
  go_ret2
  exact ⟨rfl, rfl⟩
/-- A new device of pages. -/
def dsNew : Ds := ⟨.on, fun _ => Dv.blank64, fun _ => none⟩
def FmP (w W : World) (D P L M n B pages : Nat) (x : Ending) (w' : World) : Prop := ∃ T, x = .returned (.tuple #[.pointer (some ⟨T, 0, none⟩), .int .i64 0]) ∧ TwS w w' D P L M n B T pages dsNew ∧ Dv.Fr3 P L M W w' ∧ W.heap.size ≤ T
set_option maxRecDepth 100000 in
set_option maxHeartbeats 4000000 in
theorem fmt_s {g : Nat → List UInt8} {f : Int → Option (List UInt8)} (h : DvB w W D P L M n B ⟨.on, g, f⟩) (hB : B + n + 1 ≤ 900000) (hn : n ≤ 4096) (p : Nat) (h1 : 1 ≤ p) (h2 : p ≤ 64) (h3 : 5 + 4 * p ≤ n) :
    Calls Tryz.prog 7 #[.pointer (some ⟨D, 0, none⟩), .int .i64 (p : Int)] W (FmP w W D P L M n (B + n + 1) p) := by
  have KF := Lib.hid (fits_dev h.d (p : Int))
  rw [fits_yes h1 h2 h3] at KF
  have KS := Lib.hid (sectors_s h.d)
  have H0 : Hid (DvB w W D P L M n (B + 0) ⟨.on, g, f⟩) := h
  have F0 : Hid (Dv.Fr3 P L M W W) := Dv.Fr3.refl ..
  have hn1 : (n : Int) ≤ 4096 := by omega
  clear h
  go_enter Tryz.func7, Tryz.ntmps7
  go_wp2_with fail
  refine KF.out.mono ?_
  rintro x w1 ⟨rfl, rfl⟩
  go_wp2_with fail
  refine KS.out.mono ?_
  rintro x w1 ⟨rfl, rfl⟩
  clear KF KS
  go_wp2
  go_loopw [15] (fun i wr => ∃ (k : Nat) (f1 : Int → Option (List UInt8)), k ≤ n ∧ i = .int .i64 k ∧ Hid (∀ j : Nat, j < k → f1 (j : Int) = some Dv.blank64) ∧ Hid (DvB w wr D P L M n (B + k) ⟨.on, g, f1⟩) ∧ Hid (Dv.Fr3 P L M W wr)) (fun i _ => n - (intOf i).toNat)
  case atStart => exact ⟨0, f, Nat.zero_le _, rfl, (fun j hj => by omega : ∀ j : Nat, j < 0 → f (j : Int) = some Dv.blank64), H0, F0⟩
  case round =>
    obtain ⟨k, f1, hk, rfl, HL, HS, HF⟩ := hrel
    rename World => wa
    clear H0 F0
    have hk0 : (0 : Int) ≤ (k : Int) := by omega
    by_cases hlt : k < n
    · have hk1 : (k : Int) < (n : Int) := by omega
      have KW := Lib.hid (write_e HS.out.d (by omega) k hlt hn)
      have KW2 := Lib.hid (KW.out.mono fun x w' (hh : WrP _ _ _ _ _ _ _ _ _ _ x w') => (hh : x = .returned (.int .i64 0) ∧ DvS w' D P L M n (B + k + 1) ⟨.on, g, Dv.upd f1 (k : Int) (some Dv.blank64)⟩ ∧ Dv.Fr3 P L M wa w'))
      clear KW
      go_wp2_with fail
      refine KW2.out.mono ?_
      rintro x w2 ⟨rfl, hd2, hf2⟩
      have S2 := Lib.hid (HS.out.next hd2 hf2)
      have F2 := Lib.hid (HF.out.trans hf2)
      clear hd2 hf2 KW2 HS HF
      go_wp2
      go_roundw
      case rel =>
        refine ⟨k + 1, _, by omega, by go_num, (show ∀ j : Nat, j < k + 1 → _ from fun j hj => ?_), S2, F2⟩
        by_cases e : j = k
        · subst e; exact upd_in
        · rw [upd_out e]; exact HL.out j (by omega)
      case measure => simp [intOf]; omega
    · have hk1 : (n : Int) ≤ (k : Int) := by omega
      have hkn : k = n := by omega
      have KS := Lib.hid ((sync_s HS.out.d (by omega)).mono fun x w' (hh : SyPst _ _ _ _ _ _ _ _ x w') => (hh : x = .returned (.int .i64 0) ∧ DvS w' D P L M n (B + k + 1) ⟨.on, vw ⟨.on, g, f1⟩, fun _ => none⟩ ∧ Dv.Fr3 P L M wa w'))
      go_wp2_with fail
      refine KS.out.mono ?_
      rintro x w2 ⟨rfl, hd2, hf2⟩
      have hg : ∀ j, j < n → vw ⟨.on, g, f1⟩ j = Dv.blank64 := fun j hj => by
        unfold vw; show (f1 (j : Int)).getD _ = _; rw [HL.out j (by omega)]; rfl
      have S2 := Lib.hid ((HS.out.next (hd2.congr hg) hf2).tw p 62)
      have F2 := Lib.hid ((HF.out.trans hf2).trans (Dv.Fr3.of_below ((Below.refl w2.heap.size w2).alloc (Nat.le_refl _) (.cells #[.pointer (some ⟨D, 0, none⟩), .int .i64 (p : Int)] 62))))
      have hle := (HF.out.trans hf2).size
      clear hd2 hf2 KS HS HF hg HL
      go_wp2
      go_ret2
      exact ⟨w2.heap.size, rfl, by rw [hkn] at S2; exact S2.out, F2.out, hle⟩
end
end Go.Proofs.YtcdnkmjjedbbpaaGreatDoor
