/-
  TwiceCrashes: the contracts that its walk meets.
  TwiceCrashes: the state of its loop.
-/
import Derived.Test.YtcdnkmjjedbbpaaGreatDoorTwr
namespace Go.Proofs.YtcdnkmjjedbbpaaGreatDoor
open Go.RowKit
/-- A device that is up, and armed. -/
def Tar (w W : World) (D P L M n B j : Nat) (Q : (Nat → List UInt8) → Prop) : Prop := ∃ g, DvB w W D P L M n B ⟨.arm j, g, fun _ => none⟩ ∧ Q g
section
variable {w W : World} {D P L M n B T np : Nat} {now : Nat → Pg} {pm : Pm} {Q : (Nat → List UInt8) → Prop}
theorem pgs_new' {P L M : Nat} (q : PgV) (X : World) (Ty : TypeId) (hl : P < X.heap.size ∧ L < X.heap.size ∧ M < X.heap.size) {W1 : World} (ha : ClsAt W1 q.a q.l) (hf : Dv.Fr3 P L M (X.alloc (.cells #[.int .i64 q.no, .int .i64 q.g, .slice q.a q.l.length q.c] Ty)) W1) : PgsAt W1 (some ⟨X.heap.size, 0, none⟩) [q] := .inr ⟨X.heap.size, 0, rfl, fun i hi => by
  match i, hi with
  | 0, _ =>
    have h1 : X.heap.size ≠ P := by omega
    have h2 : X.heap.size ≠ L := by omega
    have h3 : X.heap.size ≠ M := by omega
    exact ⟨hf.cell (Dv.new_cell rfl rfl) h1 h2 h3, hf.cell (Dv.new_cell rfl rfl) h1 h2 h3, hf.cell (Dv.new_cell rfl rfl) h1 h2 h3, ha⟩⟩
/-- What a Store of a page comes to. -/
def StOut (w W' : World) (D P L M n B T np : Nat) (now : Nat → Pg) (q : PgV) (e : Int) : Prop :=
  (e = 0 ∧ pgOk q.no q.g q.l = true ∧ q.no < (np : Int) ∧ ∃ pm, Tk w W' D P L M n B T np (setPg now q.no.toNat (q.g, q.l)) pm) ∨
  (e = 6 ∧ pgOk q.no q.g q.l = true ∧ q.no < (np : Int) ∧ Tfell w W' D P L M n B (fun g => Inv np g now ∨ Inv np g (setPg now q.no.toNat (q.g, q.l)))) ∨
  (e = 1 ∧ ∃ pm, Tk w W' D P L M n B T np now pm)
theorem c_store (h : Tk w W D P L M n B T np now pm) (hB : B + 14 ≤ 900000) (hn : n ≤ 4096) (h3 : 5 + 4 * np ≤ n) (q : PgV) (hl : q.l.length ≤ maxLen) (ha : ClsAt w q.a q.l) :
    Calls Tryz.prog 12 #[.pointer (some ⟨T, 0, none⟩), .slice (some ⟨W.heap.size, 0, none⟩) 1 1] (W.alloc (.cells #[.int .i64 q.no, .int .i64 q.g, .slice q.a q.l.length q.c] 36))
      fun x w' => ∃ e, x = .returned (.int .i64 e) ∧ StOut w w' D P L M n (B + 14) T np now q e ∧ Dv.Fr3 P L M (W.alloc (.cells #[.int .i64 q.no, .int .i64 q.g, .slice q.a q.l.length q.c] 36)) w' := by
  obtain ⟨s, h1, h2, h4⟩ := h
  have hba := (Below.refl W.heap.size W).alloc (Nat.le_refl _) (.cells #[.int .i64 q.no, .int .i64 q.g, .slice q.a q.l.length q.c] 36)
  have hX := h1.below hba
  have := store_l hX hn h3 (some ⟨W.heap.size, 0, none⟩) [q] 1 (by simpa using hB) (fun W1 hf => pgs_new' q W 36 h1.d.lts.2 (ha.below (hX.bw.trans (hf.below hX.bw.size hX.lo.1 hX.lo.2.1 hX.lo.2.2))) hf) (fun i => by
    match i with
    | 0 => exact hl
    | i + 1 => show 0 ≤ maxLen; omega)
  refine this.mono ?_
  rintro x w' ⟨rfl, hs2, hf⟩
  refine ⟨_, rfl, ?_, hf⟩
  have e2 : stL np [q] s = st1 np q s := by
    unfold stL
    split
    · rename_i e
      unfold stL
      rw [← e]
    · rfl
  rw [e2] at hs2 ⊢
  change TwS w w' D P L M n (B + 14) T np (st1 np q s).2 at hs2
  by_cases hc : pgOk q.no q.g q.l = true ∧ q.no < (np : Int)
  · obtain ⟨k, hk⟩ : ∃ k : Nat, q.no = (k : Int) := ⟨q.no.toNat, by have := (pgOk_parts hc.1).1; omega⟩
    have hkn : k < np := by have := hc.2; omega
    have hok : pgOk (k : Int) q.g q.l = true := by rw [← hk]; exact hc.1
    have e3 : st1 np q s = (er (storeM k (pgBytes k q.g q.l) s).1, (storeM k (pgBytes k q.g q.l) s).2) := by unfold st1; rw [if_pos hc, hk, Int.toNat_natCast]
    have ht := storeM_ht (n := np) (now := now) (no := k) (p := (q.g, q.l)) hkn hok s h2
    rw [e3] at hs2 ⊢
    have e4 : q.no.toNat = k := by omega
    cases hb : (storeM k (pgBytes k q.g q.l) s).1 with
    | true => exact .inl ⟨rfl, hc.1, hc.2, _, by rw [e4]; exact ⟨_, hs2, ht.1 hb, rfl⟩⟩
    | false => exact .inr (.inl ⟨rfl, hc.1, hc.2, by rw [e4]; exact ⟨_, hs2.b, ht.2 hb⟩⟩)
  · have e3 : st1 np q s = (1, s) := by unfold st1; rw [if_neg hc]
    rw [e3] at hs2 ⊢
    exact .inr (.inr ⟨rfl, _, s, hs2, h2, h4⟩)
theorem c_arm_up (h : Tup w W D P L M n B Q) (j : Nat) (hj : j ≤ 1000) :
    Calls Tryz.prog 22 #[.pointer (some ⟨D, 0, none⟩), .int .i64 (j : Int)] W fun x w' => x = .returned (.tuple #[]) ∧ Tar w w' D P L M n B j Q ∧ Dv.Fr3 P L M W w' := by
  obtain ⟨g, h1, h2⟩ := h
  refine (arm_s h1.d (by intro e; cases e) j hj).mono ?_
  rintro x w' ⟨rfl, hd, hf⟩
  exact ⟨rfl, ⟨g, h1.next hd hf, h2⟩, hf⟩
theorem c_open_any {j : Nat} (h : Tar w W D P L M n B j (fun g => Inv np g now)) (hB : B + 7 ≤ 900000) (hn : n ≤ 4096) (h1 : 1 ≤ np) (h2 : np ≤ 64) (h3 : 5 + 4 * np ≤ n) :
    Calls Tryz.prog 15 #[.pointer (some ⟨D, 0, none⟩), .int .i64 (np : Int)] W fun x w' => (∃ v, x = .returned v) ∧ Tfell w w' D P L M n (B + 7) (fun g => Inv np g now) ∧ Dv.Fr3 P L M W w' := by
  obtain ⟨g, hd, hi⟩ := h
  refine (open_s hd hB hn np h1 h2 h3).mono ?_
  rintro x w' ⟨T, rfl, hs, hf, _⟩
  have ho := open_inv (s := ⟨.arm j, g, fun _ => none⟩) hi (fun _ => rfl) h2
  refine ⟨⟨_, rfl⟩, ⟨_, hs.b, ?_⟩, hf⟩
  by_cases e : (openM np ⟨.arm j, g, fun _ => none⟩).1 = 0
  · exact (ho.ok e).safe
  · exact ho.no e
theorem ints_in {ka : Option Addr} {ks : List Int} (h : IntsAt w ka ks) (hb : Below w.heap.size w W) (hL : w.heap.size ≤ L) : Dv.IntsIn W ka L ks := by
  rcases h with rfl | ⟨b, off, e, h⟩
  · exact .inl rfl
  · by_cases h0 : ks.length = 0
    · exact .inl (List.length_eq_zero_iff.1 h0)
    · have hlt := Dv.block_lt (h 0 (by omega))
      have hlt : b < w.heap.size := hlt
      exact .inr ⟨b, off, e, by omega, fun i hi => (hb.cell (p := ⟨b, off + i, none⟩) hlt).trans (h i hi)⟩
theorem c_open2 (h : Tup w W D P L M n B (fun g => Inv np g now)) (hB : B + 7 ≤ 900000) (hn : n ≤ 4096) (h1 : 1 ≤ np) (h2 : np ≤ 64) (h3 : 5 + 4 * np ≤ n) :
    Calls Tryz.prog 15 #[.pointer (some ⟨D, 0, none⟩), .int .i64 (np : Int)] W fun x w' => ∃ T, x = .returned (.tuple #[.pointer (some ⟨T, 0, none⟩), .int .i64 0]) ∧ Tk w w' D P L M n (B + 7) T np now .on ∧ Dv.Fr3 P L M W w' ∧ W.heap.size ≤ T := by
  obtain ⟨g, hd, hi⟩ := h
  refine (open_s hd hB hn np h1 h2 h3).mono ?_
  rintro x w' ⟨T, rfl, hs, hf, hT⟩
  have ho := open_inv (s := ⟨.on, g, fun _ => none⟩) hi (fun _ => rfl) h2
  obtain ⟨e1, e2⟩ := ho.on rfl
  rw [if_pos e1, e1]
  exact ⟨T, rfl, ⟨_, hs, ho.ok e1, e2⟩, hf, hT⟩
theorem ints_below {ka : Option Addr} {ks : List Int} (h : IntsAt w ka ks) (hb : Below w.heap.size w W) : IntsAt W ka ks := by
  rcases h with rfl | ⟨b, off, e, h⟩
  · exact .inl rfl
  · exact .inr ⟨b, off, e, fun i hi => Dv.keep_cell hb (h i hi)⟩
theorem NowIs.set {ps : List PgV} (h : NowIs np ps now) (q : PgV) {k : Nat} (hk : k < np) (hq : q.no = (k : Int)) : NowIs np (ps.set k q) (setPg now k (q.g, q.l)) := by
  obtain ⟨h1, h2⟩ := h
  refine ⟨by rw [List.length_set]; exact h1, fun j hj => ?_⟩
  rw [List.getD_eq_getElem?_getD, List.getElem?_set]
  by_cases e : k = j
  · subst e
    rw [if_pos rfl, if_pos (by omega)]
    refine ⟨hq, ?_⟩
    unfold setPg; rw [if_pos rfl]; rfl
  · rw [if_neg e]
    have := h2 j hj
    rw [List.getD_eq_getElem?_getD] at this
    unfold setPg
    rw [if_neg (fun x => e x.symm)]
    exact this
theorem nowIs_em (np : Nat) : NowIs np (emP np) (fun _ => (0, [])) := ⟨emP_len np, fun k hk => by rw [emP_get np k hk]; exact ⟨rfl, rfl⟩⟩
end
end Go.Proofs.YtcdnkmjjedbbpaaGreatDoor

namespace Go.Proofs.YtcdnkmjjedbbpaaGreatDoor
open Go.RowKit
section
variable {w W : World} {D P L M n B T np R : Nat} {now : Nat → Pg} {pm : Pm} {s : Ds}
theorem dev_apart {W' : World} {k : Nat} {off armed : Bool} {uses left : Int} {las : List (List UInt8)} {f : Int → Option (List UInt8)} (h : Dv.DevAt W D P L M n k off uses armed left las f) (hg : W.grownBy W' (some R)) (h1 : D ≠ R) (h2 : P ≠ R) (h3 : L ≠ R) (h4 : M ≠ R) : Dv.DevAt W' D P L M n k off uses armed left las f where
  d0 := Dv.cell_apart hg h1 h.d0
  d1 := Dv.cell_apart hg h1 h.d1
  d2 := Dv.cell_apart hg h1 h.d2
  p0 := Dv.cell_apart hg h2 h.p0
  p1 := Dv.cell_apart hg h2 h.p1
  p2 := Dv.cell_apart hg h2 h.p2
  p3 := Dv.cell_apart hg h2 h.p3
  pf := fun i => (World.frozen?_of_block (hg.block P (Dv.block_lt (p := ⟨P, 0, none⟩) h.p0) (by simpa using h2))).trans (h.pf i)
  lb := (hg.block L (Dv.blk_lt h.lb) (by simpa using h3)).trans h.lb
  ll := h.ll
  l64 := h.l64
  mp := h.mp.kept hg (by simpa using h4)
  dp := h.dp
  dl := h.dl
  dm := h.dm
  pl := h.pl
  pm := h.pm
  lm := h.lm
theorem Tk.apart {W' : World} (h : Tk w W D P L M n B T np now pm) (hg : W.grownBy W' (some R)) (hb : w.heap.size ≤ R) (h0 : T ≠ R) (h1 : D ≠ R) (h2 : P ≠ R) (h3 : L ≠ R) (h4 : M ≠ R) : Tk w W' D P L M n B T np now pm := by
  obtain ⟨s, hs, r⟩ := h
  obtain ⟨k, off, uses, armed, left, las, hd, r2⟩ := hs.d
  exact ⟨s, ⟨⟨k, off, uses, armed, left, las, dev_apart hd hg h1 h2 h3 h4, r2⟩, Dv.cell_apart hg h0 hs.t0, Dv.cell_apart hg h0 hs.t1, hs.tne, ⟨hg.os.trans hs.bw.os, hg.tape.trans hs.bw.tape, hg.output.trans hs.bw.output, Nat.le_trans hs.bw.size hg.size, fun k hk => (hg.block k (Nat.lt_of_lt_of_le hk hs.bw.size) (fun e => by injection e with e; omega)).trans (hs.bw.block k hk)⟩, hs.lo, hs.tab⟩, r⟩
theorem Tk.ltT (h : Tk w W D P L M n B T np now pm) : T < W.heap.size ∧ D < W.heap.size := by
  obtain ⟨s, hs, _⟩ := h
  exact ⟨Dv.block_lt (p := ⟨T, 0, none⟩) hs.t0, hs.d.lts.1⟩
theorem Tfell.lo {Q : (Nat → List UInt8) → Prop} (h : Tfell w W D P L M n B Q) : w.heap.size ≤ P ∧ w.heap.size ≤ L ∧ w.heap.size ≤ M := by obtain ⟨s, h1, _⟩ := h; exact h1.lo
theorem set3_grown (W : World) (R i j k : Nat) (u v x : Value) : W.grownBy (((W.setCell ⟨R, i, none⟩ u).setCell ⟨R, j, none⟩ v).setCell ⟨R, k, none⟩ x) (some R) :=
  ((grown_cell W R i u).trans (grown_cell _ R j v)).trans (grown_cell _ R k x)
/-- What the law's row of pages is: as it must be; its cells lie in what came in. -/
structure LpR (w W : World) (R cap : Nat) (ps : List PgV) (now : Nat → Pg) : Prop where
  row : RowP W w.heap.size (.slice (some ⟨R, 0, none⟩) ps.length cap) ps
  is : NowIs 6 ps now
  cl : ∀ i, i < 6 → ClsAt w (ps.getD i noPg).a (ps.getD i noPg).l
  sm : ∀ i, i < 6 → (now i).2.length ≤ 1000
theorem LpR.below {X : World} {cap : Nat} {ps : List PgV} (h : LpR w W R cap ps now) (hb : Below W.heap.size W X) : LpR w X R cap ps now := ⟨h.row.below hb, h.is, h.cl, h.sm⟩
theorem LpR.fr3 {X : World} {cap : Nat} {ps : List PgV} (h : LpR w W R cap ps now) (hf : Dv.Fr3 P L M W X) (h2 : P ≠ R) (h3 : L ≠ R) (h4 : M ≠ R) : LpR w X R cap ps now := ⟨h.row.fr3 hf h2.symm h3.symm h4.symm, h.is, h.cl, h.sm⟩
theorem LpR.len {cap : Nat} {ps : List PgV} (h : LpR w W R cap ps now) : ps.length = 6 := h.is.1
theorem LpR.pgs {cap : Nat} {ps : List PgV} (h : LpR w W R cap ps now) (hb : Below w.heap.size w W) : PgsAt W (some ⟨R, 0, none⟩) ps := h.row.pgs fun i hi => (h.cl i (by have := h.len; omega)).below hb
/-- The cells where a page is to be stored. -/
theorem LpR.spot {cap : Nat} {ps : List PgV} (h : LpR w W R cap ps now) (k : Nat) (hk : k < 6) : (∃ v, W.cell? ⟨R, k * 3, none⟩ = some (.int .i64 v)) ∧ (∃ v, W.cell? ⟨R, k * 3 + 1, none⟩ = some (.int .i64 v)) ∧ (∃ a m c, W.cell? ⟨R, k * 3 + 2, none⟩ = some (.slice a m c)) ∧ ∀ j, W.frozen? ⟨R, j, none⟩ = false := by
  obtain ⟨h1, h2, h3⟩ := h.row.cells k (by have := h.len; omega)
  exact ⟨⟨_, h1⟩, ⟨_, h2⟩, ⟨_, _, _, h3⟩, fun j => World.ownsRow.frozenAt h.row j⟩
theorem LpR.set {cap : Nat} {ps : List PgV} (h : LpR w W R cap ps now) (k : Nat) (hk : k < 6) (q : PgV) (hq : q.no = (k : Int)) (hc : ClsAt w q.a q.l) (hs : q.l.length ≤ 1000) :
    LpR w (((W.setCell ⟨R, k * 3, none⟩ (.int .i64 q.no)).setCell ⟨R, k * 3 + 1, none⟩ (.int .i64 q.g)).setCell ⟨R, k * 3 + 2, none⟩ (.slice q.a q.l.length q.c)) R cap (ps.set k q) (setPg now k (q.g, q.l)) where
  row := by
    have := h.row.set k (by have := h.len; omega) q
    rw [List.length_set]; exact this
  is := h.is.set q hk hq
  cl := fun i hi => by
    rw [List.getD_eq_getElem?_getD, List.getElem?_set]
    by_cases e : k = i
    · rw [if_pos e, if_pos (by have := h.len; omega)]; exact hc
    · rw [if_neg e, ← List.getD_eq_getElem?_getD]; exact h.cl i hi
  sm := fun i hi => by
    unfold setPg
    split
    · exact hs
    · exact h.sm i hi
/-- The loop, nothing having gone wrong. -/
def LpA (w W : World) (D P L M T R cap k : Nat) : Prop := ∃ ps now pm, LpR w W R cap ps now ∧ Tk w W D P L M 29 (30 + 14 * k) T 6 now pm
theorem LpA.below {X : World} {cap k : Nat} (h : LpA w W D P L M T R cap k) (hb : Below W.heap.size W X) : LpA w X D P L M T R cap k := by
  obtain ⟨ps, now, pm, h1, h2⟩ := h
  exact ⟨ps, now, pm, h1.below hb, h2.below hb⟩
/-- The loop, behind the page at which the power went. -/
def LpC (w W : World) (D P L M R cap k : Nat) (q : PgV) : Prop := ∃ ps now, LpR w W R cap ps now ∧ pgOk q.no q.g q.l = true ∧ q.no < 6 ∧ Tfell w W D P L M 29 (30 + 14 * k) (fun g => Inv 6 g now ∨ Inv 6 g (setPg now q.no.toNat (q.g, q.l)))
end
end Go.Proofs.YtcdnkmjjedbbpaaGreatDoor
