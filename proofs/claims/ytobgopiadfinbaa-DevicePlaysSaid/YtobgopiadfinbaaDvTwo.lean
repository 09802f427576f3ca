/-
  TWO DEVICES OF ONE POWER; what is done to one of them, as law 05's DeviceApart does it.
-/
import Derived.Test.YtobgopiadfinbaaDvPut
import Derived.Test.YtobgopiadfinbaaDvSync
import Derived.Test.YtobgopiadfinbaaDvActs
import Derived.Maps.AppendAt
import Derived.Laws.OwnMore
namespace Go.Proofs.Ytobgopiadfinbaa
open Go.RowKit
def okF (f : Int → Option (List UInt8)) : Prop := ∀ z l, f z = some l → 0 ≤ z ∧ z < ((6 : Nat) : Int) ∧ l.length = 64
theorem okF.none : okF (fun _ => none) := fun _ _ h => by cases h
theorem okF.upd {f : Int → Option (List UInt8)} (h : okF f) {i : Int} (hi : 0 ≤ i ∧ i < ((6 : Nat) : Int)) {l : List UInt8} (hl : l.length = 64) : okF (upd f i (some l)) := fun z m hm => by
  unfold Go.Proofs.Ytobgopiadfinbaa.upd at hm
  by_cases e : z = i
  · rw [if_pos e] at hm; cases hm; rw [e]; exact ⟨hi.1, hi.2, hl⟩
  · rw [if_neg e] at hm; exact h z m hm
theorem okF.del {f : Int → Option (List UInt8)} (h : okF f) (i : Int) : okF (Go.Proofs.Ytobgopiadfinbaa.upd f i Option.none) := fun z m hm => by
  unfold Go.Proofs.Ytobgopiadfinbaa.upd at hm
  by_cases e : z = i
  · rw [if_pos e] at hm; cases hm
  · rw [if_neg e] at hm; exact h z m hm
/-- Where the blocks lie. -/
structure ApS (b0 B1 B2 B3 D P L M E L' M' : Nat) : Prop where
  p : b0 ≤ P ∧ P < B1
  d : B1 ≤ D ∧ D < B2
  l : B1 ≤ L ∧ L < B2
  m : B1 ≤ M ∧ M < B2
  e : B2 ≤ E ∧ E < B3
  l' : B2 ≤ L' ∧ L' < B3
  m' : B2 ≤ M' ∧ M' < B3
/-- Two devices of one power, on, not armed. -/
structure Two (w W : World) (D P L M E L' M' c : Nat) (u lf : Int) (kd ke : Nat) (lasd : List (List UInt8)) (fd : Int → Option (List UInt8)) (lase : List (List UInt8)) (fe : Int → Option (List UInt8)) : Prop where
  d : DevAt W D P L M 6 kd false u false lf lasd fd
  e : DevAt W E P L' M' 6 ke false u false lf lase fe
  u : 0 ≤ u ∧ u ≤ (c : Int)
  k : kd ≤ c ∧ ke ≤ c
  fd : okF fd
  fe : okF fe
  bw : Below w.heap.size w W
section
variable {w W : World} {B1 B2 B3 D P L M E L' M' c : Nat} {u lf : Int} {kd ke : Nat} {lasd lase : List (List UInt8)} {fd fe : Int → Option (List UInt8)}
theorem Two.below {W' : World} (h : Two w W D P L M E L' M' c u lf kd ke lasd fd lase fe) (hb : Below W.heap.size W W') : Two w W' D P L M E L' M' c u lf kd ke lasd fd lase fe :=
  { h with d := h.d.below hb, e := h.e.below hb, bw := h.bw.trans (hb.mono h.bw.size) }
theorem Two.mono {c' : Nat} (h : Two w W D P L M E L' M' c u lf kd ke lasd fd lase fe) (hc : c ≤ c') : Two w W D P L M E L' M' c' u lf kd ke lasd fd lase fe :=
  { h with u := ⟨h.u.1, by have := h.u.2; omega⟩, k := ⟨Nat.le_trans h.k.1 hc, Nat.le_trans h.k.2 hc⟩ }
/-- The second one was changed. -/
theorem Two.onE {W' : World} {u' lf' : Int} {ke' : Nat} {lase' : List (List UInt8)} {fe' : Int → Option (List UInt8)} (S : ApS w.heap.size B1 B2 B3 D P L M E L' M') (h : Two w W D P L M E L' M' c u lf kd ke lasd fd lase fe)
    (g : DevAt W' E P L' M' 6 ke' false u' false lf' lase' fe') (hf : Fr3 P L' M' W W') (hu : 0 ≤ u' ∧ u' ≤ ((c + 1 : Nat) : Int)) (hk : ke' ≤ c + 1) (ho : okF fe') : Two w W' D P L M E L' M' (c + 1) u' lf' kd ke' lasd fd lase' fe' := by
  obtain ⟨p1, p2⟩ := S.p
  obtain ⟨d1, d2⟩ := S.d
  obtain ⟨l1, l2⟩ := S.l
  obtain ⟨m1, m2⟩ := S.m
  obtain ⟨l3, l4⟩ := S.l'
  obtain ⟨m3, m4⟩ := S.m'
  exact ⟨h.d.other g hf ⟨by omega, by omega⟩ ⟨by omega, by omega⟩ ⟨by omega, by omega⟩, g, hu, ⟨by have := h.k.1; omega, hk⟩, h.fd, ho, h.bw.trans (hf.below h.bw.size p1 (by omega) (by omega))⟩
/-- The first one was changed. -/
theorem Two.onD {W' : World} {u' lf' : Int} {kd' : Nat} {lasd' : List (List UInt8)} {fd' : Int → Option (List UInt8)} (S : ApS w.heap.size B1 B2 B3 D P L M E L' M') (h : Two w W D P L M E L' M' c u lf kd ke lasd fd lase fe)
    (g : DevAt W' D P L M 6 kd' false u' false lf' lasd' fd') (hf : Fr3 P L M W W') (hu : 0 ≤ u' ∧ u' ≤ ((c + 1 : Nat) : Int)) (hk : kd' ≤ c + 1) (ho : okF fd') : Two w W' D P L M E L' M' (c + 1) u' lf' kd' ke lasd' fd' lase fe := by
  obtain ⟨p1, p2⟩ := S.p
  obtain ⟨l1, l2⟩ := S.l
  obtain ⟨m1, m2⟩ := S.m
  obtain ⟨e1, e2⟩ := S.e
  obtain ⟨l3, l4⟩ := S.l'
  obtain ⟨m3, m4⟩ := S.m'
  exact ⟨g, h.e.other g hf ⟨by omega, by omega⟩ ⟨by omega, by omega⟩ ⟨by omega, by omega⟩, hu, ⟨hk, by have := h.k.2; omega⟩, ho, h.fe, h.bw.trans (hf.below h.bw.size p1 (by omega) (by omega))⟩
theorem StrsAt.set {W : World} {a : Option Addr} {ss : List ByteArray} (h : StrsAt W a ss) (P i : Nat) (v : Value) (hP : ∀ b off j x, W.cell? ⟨b, off + j, none⟩ = some x → a = some ⟨b, off, none⟩ → j < ss.length → b ≠ P) : StrsAt (W.setCell ⟨P, i, none⟩ v) a ss := by
  rcases h with e | ⟨b, off, e, hc⟩
  · exact .inl e
  · refine .inr ⟨b, off, e, fun j hj => ?_⟩
    rw [World.cell?_setCell_other _ _ _ _ (fun x => by injection x with x1 _; exact hP b off j _ (hc j hj) e hj x1.symm)]
    exact hc j hj
/-- Texts that came in, behind a write of the power's. -/
theorem StrsAt.came {a : Option Addr} {ss : List ByteArray} (h0 : StrsAt w a ss) (hb : Below w.heap.size w W) (P i : Nat) (hP : w.heap.size ≤ P) (v : Value) : StrsAt (W.setCell ⟨P, i, none⟩ v) a ss := by
  rcases h0 with e | ⟨b, off, e, hc⟩
  · exact .inl e
  · refine .inr ⟨b, off, e, fun j hj => ?_⟩
    have hlt : b < w.heap.size := block_lt (p := ⟨b, off + j, none⟩) (hc j hj)
    rw [World.cell?_setCell_other _ _ _ _ (fun x => by injection x with x1 _; omega)]
    exact keep_cell hb (hc j hj)
/-- What is done to the second one: its answer isn't looked at. -/
def DoneE (w W : World) (D P L M E L' M' c : Nat) (kd : Nat) (lasd : List (List UInt8)) (fd : Int → Option (List UInt8)) (w' : World) : Prop :=
  ∃ (u' lf' : Int) (ke' : Nat) (lase' : List (List UInt8)) (fe' : Int → Option (List UInt8)), Two w w' D P L M E L' M' (c + 1) u' lf' kd ke' lasd fd lase' fe' ∧ Fr3 P L' M' W w'
theorem bytes_small {ss : List ByteArray} (h : ∀ s ∈ ss, s.size ≤ 140737488351232) (i : Nat) : (ss.getD i ByteArray.empty).size ≤ 140737488355328 := by
  rw [List.getD_eq_getElem?_getD]
  cases hx : ss[i]? with
  | none => simp [ByteArray.size]
  | some s => have := h s (List.mem_of_getElem? hx); simp only [Option.getD_some]; omega
theorem e_write (S : ApS w.heap.size B1 B2 B3 D P L M E L' M') (h : Two w W D P L M E L' M' c u lf kd ke lasd fd lase fe) (hc : c ≤ 1000) (x : Da) (hx : DaOk w x) (h6 : x.dl.length ≤ 6) :
    Calls Try.prog 13 #[.pointer (some ⟨E, 0, none⟩), .int .i64 x.n, .slice x.da x.dl.length x.dc] W fun e w' => (∃ r, e = .returned (.int .i64 r)) ∧ DoneE w W D P L M E L' M' c kd lasd fd w' := by
  have hu := h.u
  have hk := h.k
  have hsa := hx.ds.came h.bw P 1 S.p.1 (.int .i64 (u + 1))
  by_cases hh : (joined x.dl).length ≤ 64 ∧ 0 ≤ x.n ∧ x.n < ((6 : Nat) : Int)
  · refine (write_fr h.e ⟨hu.1, by omega⟩ (by omega) x.n hh.2 (by omega) x.da x.dl x.dc (by omega) hsa (bytes_small hx.dz) hh.1).mono ?_
    rintro e w' ⟨rfl, g, hf⟩
    exact ⟨⟨_, rfl⟩, _, _, _, _, _, h.onE S g hf ⟨by omega, by omega⟩ (by omega) (h.fe.upd hh.2 (pad_len hh.1)), hf⟩
  · refine (write_no h.e ⟨hu.1, by omega⟩ x.n x.da x.dl x.dc (by omega) hsa (bytes_small hx.dz) ?_).mono ?_
    · by_cases h64 : (joined x.dl).length ≤ 64
      · right
        unfold hasB
        by_cases h0 : 0 ≤ x.n
        · rw [decide_eq_false (show ¬ x.n < ((6 : Nat) : Int) from fun hl => hh ⟨h64, h0, hl⟩), Bool.and_false]
        · rw [decide_eq_false h0, Bool.false_and]
      · left; omega
    rintro e w' ⟨rfl, g, hf⟩
    exact ⟨⟨_, rfl⟩, _, _, _, _, _, h.onE S g hf ⟨by omega, by omega⟩ (by omega) h.fe, hf⟩
theorem e_sync (S : ApS w.heap.size B1 B2 B3 D P L M E L' M') (h : Two w W D P L M E L' M' c u lf kd ke lasd fd lase fe) (hc : c ≤ 1000) :
    Calls Try.prog 21 #[.pointer (some ⟨E, 0, none⟩)] W fun e w' => (∃ r, e = .returned (.int .i64 r)) ∧ DoneE w W D P L M E L' M' c kd lasd fd w' := by
  have hu := h.u
  have hk := h.k
  refine (sync_any h.e ⟨hu.1, by omega⟩ h.fe).mono ?_
  rintro e w' ⟨rfl, las2, g, _, hf⟩
  exact ⟨⟨_, rfl⟩, _, _, _, _, _, h.onE S g hf ⟨by omega, by omega⟩ (by omega) okF.none, hf⟩
theorem e_crash (S : ApS w.heap.size B1 B2 B3 D P L M E L' M') (h : Two w W D P L M E L' M' c u lf kd ke lasd fd lase fe) (x : Da) (hx : DaOk w x) (h40 : x.kl.length ≤ 40) :
    Calls Try.prog 14 #[.pointer (some ⟨E, 0, none⟩), .slice x.ka x.kl.length x.kc] W fun e w' => e = .returned (.tuple #[]) ∧ DoneE w W D P L M E L' M' c kd lasd fd w' := by
  have hu := h.u
  have hk := h.k
  obtain ⟨p1, p2⟩ := S.p
  obtain ⟨l3, l4⟩ := S.l'
  obtain ⟨m3, m4⟩ := S.m'
  obtain ⟨d1, d2⟩ := S.d
  refine (crash_fr (B := w.heap.size) h.e h.fe ⟨by omega, by omega, by omega⟩ h.bw.size x.ka x.kl x.kc (by omega) hx.kz ?_).mono ?_
  · rcases hx.ks with e | ⟨b, off, e, hc⟩
    · exact .inl e
    · by_cases h0 : x.kl = []
      · exact .inl h0
      · have hlt : b < w.heap.size := block_lt (p := ⟨b, off + 0, none⟩) (hc 0 (List.length_pos_iff.2 h0))
        exact .inr ⟨b, off, e, by omega, fun i hi => keep_cell h.bw (hc i hi)⟩
  rintro e w' ⟨rfl, g, _, hf⟩
  exact ⟨rfl, _, _, _, _, _, h.onE S g hf ⟨by omega, by omega⟩ (by omega) okF.none, hf⟩
theorem e_put (S : ApS w.heap.size B1 B2 B3 D P L M E L' M') (h : Two w W D P L M E L' M' c u lf kd ke lasd fd lase fe) (i : Int) (s : ByteArray) (hs : s.size ≤ 200) :
    Calls Try.prog 24 #[.pointer (some ⟨E, 0, none⟩), .int .i64 i, .string s] W fun e w' => (∃ r, e = .returned (.int .i64 r)) ∧ DoneE w W D P L M E L' M' c kd lasd fd w' := by
  have hu := h.u
  have hk := h.k
  by_cases hh : s.size ≤ 64 ∧ 0 ≤ i ∧ i < ((6 : Nat) : Int)
  · obtain ⟨h64, h0, h1⟩ := hh
    obtain ⟨q, rfl⟩ := Int.eq_ofNat_of_zero_le h0
    refine (put_fr h.e q (by omega) (by omega) s h64).mono ?_
    rintro e w' ⟨rfl, g, hf⟩
    exact ⟨⟨_, rfl⟩, _, _, _, _, _, h.onE S g hf ⟨by omega, by omega⟩ (by omega) (h.fe.del _), hf⟩
  · refine (put_no h.e i s (by omega) ?_).mono ?_
    · by_cases h64 : s.size ≤ 64
      · right
        unfold hasB
        by_cases h0 : 0 ≤ i
        · rw [decide_eq_false (show ¬ i < ((6 : Nat) : Int) from fun hl => hh ⟨h64, h0, hl⟩), Bool.and_false]
        · rw [decide_eq_false h0, Bool.false_and]
      · left; omega
    rintro e w' ⟨rfl, g, hf⟩
    exact ⟨⟨_, rfl⟩, _, _, _, _, _, h.onE S g hf ⟨by omega, by omega⟩ (by omega) h.fe, hf⟩
theorem d_write (S : ApS w.heap.size B1 B2 B3 D P L M E L' M') (h : Two w W D P L M E L' M' c u lf kd ke lasd fd lase fe) (hc : c ≤ 1000) (q : Nat) (hq : q < 6) (s : ByteArray) (hs : s.size ≤ 64) :
    Calls Try.prog 13 #[.pointer (some ⟨D, 0, none⟩), .int .i64 (q : Int), .slice (some ⟨W.heap.size, 0, none⟩) 1 1] (W.alloc (.cells #[.string s] 9)) fun e w' => (∃ r, e = .returned (.int .i64 r)) ∧ ∃ (u' lf' : Int) (kd' : Nat) (fd' : Int → Option (List UInt8)), Two w w' D P L M E L' M' (c + 1) u' lf' kd' ke lasd fd' lase fe ∧ W.heap.size ≤ w'.heap.size := by
  have h1 := h.below ((Below.refl _ _).alloc (o := .cells #[.string s] 9) (Nat.le_refl _))
  have hu := h.u
  have hk := h.k
  have hPl := h.d.lts.2.1
  have hfit : (joined [s]).length ≤ 64 := by rw [join1, ba_len]; exact hs
  refine (write_fr h1.d ⟨hu.1, by omega⟩ (by omega) (q : Int) ⟨by omega, by omega⟩ (by omega) (some ⟨W.heap.size, 0, none⟩) [s] 1 (by simp) ((one_str W s 9).set P 1 (.int .i64 (u + 1)) (fun b off j x _ e _ => by injection e with e; injection e with e _; omega)) (fun i => by
    cases i with
    | zero => show s.size ≤ _; omega
    | succ i => simp [ByteArray.size]) hfit).mono ?_
  rintro e w' ⟨rfl, g, hf⟩
  exact ⟨⟨_, rfl⟩, _, _, _, _, h1.onD S g hf ⟨by omega, by omega⟩ (by omega) (h1.fd.upd ⟨by omega, by omega⟩ (pad_len hfit)), Nat.le_trans (by rw [World.size_alloc]; omega) hf.size⟩
theorem DevAt.blocks {W W' : World} {D P L M n k : Nat} {off : Bool} {uses : Int} {armed : Bool} {left : Int} {las : List (List UInt8)} {f : Int → Option (List UInt8)} (h : DevAt W D P L M n k off uses armed left las f)
    (hD : W'.heap[D]? = W.heap[D]?) (hP : W'.heap[P]? = W.heap[P]?) (hL : W'.heap[L]? = W.heap[L]?) (hM : W'.heap[M]? = W.heap[M]?) : DevAt W' D P L M n k off uses armed left las f where
  d0 := (World.cell?_of_block (a := ⟨D, 0, none⟩) hD).trans h.d0
  d1 := (World.cell?_of_block (a := ⟨D, 1, none⟩) hD).trans h.d1
  d2 := (World.cell?_of_block (a := ⟨D, 2, none⟩) hD).trans h.d2
  p0 := (World.cell?_of_block (a := ⟨P, 0, none⟩) hP).trans h.p0
  p1 := (World.cell?_of_block (a := ⟨P, 1, none⟩) hP).trans h.p1
  p2 := (World.cell?_of_block (a := ⟨P, 2, none⟩) hP).trans h.p2
  p3 := (World.cell?_of_block (a := ⟨P, 3, none⟩) hP).trans h.p3
  pf := fun i => (World.frozen?_of_block (a := ⟨P, i, none⟩) hP).trans (h.pf i)
  lb := hL.trans h.lb
  ll := h.ll
  l64 := h.l64
  mp := by
    obtain ⟨D0, ⟨es, clock, hb, F, hs, hD⟩, h5⟩ := h.mp
    exact ⟨D0, ⟨es, clock, hM.trans hb, F, hs, hD⟩, h5⟩
  dp := h.dp
  dl := h.dl
  dm := h.dm
  pl := h.pl
  pm := h.pm
  lm := h.lm
theorem Two.belowB {W' : World} (S : ApS w.heap.size B1 B2 B3 D P L M E L' M') (h : Two w W D P L M E L' M' c u lf kd ke lasd fd lase fe) (hb : Below B3 W W') : Two w W' D P L M E L' M' c u lf kd ke lasd fd lase fe := by
  obtain ⟨p1, p2⟩ := S.p
  obtain ⟨d1, d2⟩ := S.d
  obtain ⟨l1, l2⟩ := S.l
  obtain ⟨m1, m2⟩ := S.m
  obtain ⟨e1, e2⟩ := S.e
  obtain ⟨l3, l4⟩ := S.l'
  obtain ⟨m3, m4⟩ := S.m'
  exact { h with
    d := h.d.blocks (hb.block _ (by omega)) (hb.block _ (by omega)) (hb.block _ (by omega)) (hb.block _ (by omega))
    e := h.e.blocks (hb.block _ (by omega)) (hb.block _ (by omega)) (hb.block _ (by omega)) (hb.block _ (by omega))
    bw := h.bw.trans (hb.mono (by omega)) }
end
/-- A row of texts of the call's own. -/
def RowS (W : World) (B : Nat) (v : Value) (ts : List ByteArray) : Prop := W.ownsRow B 9 1 v ts.length (ts.map Value.string)
theorem RowS.below {W W' : World} {B : Nat} {v : Value} {ts : List ByteArray} (h : RowS W B v ts) (hb : Below W.heap.size W W') : RowS W' B v ts :=
  World.ownsRow.kept h (row := none) ⟨hb.os, hb.tape, hb.output, hb.size, fun k hk _ => hb.block k hk⟩ (by cases v.ownBlock with
    | none => exact .inl rfl
    | some k => exact .inr (fun e => by cases e))
theorem RowS.none (W : World) (B : Nat) : RowS W B (.slice none 0 0) [] := World.ownsRow_nil _ _ _ _
theorem infoS : (Try.prog.info? 9).map (fun i => (i.zero, i.size, i.bytes)) = some (some (.string ⟨#[]⟩), 1, 16) := by kernel_rfl
theorem append_str {W0 : World} {ops : Array Oper} {rest : List Oper} {o : Oper} {a : Act} {Q : Exit → Act → World → Prop} (hgd : o.guard = none) (s x : Operand)
    (ho : o.op = .call { callee := .builtin .append, args := #[s, x], argTypes := #[35, 35] })
    (B : Nat) (v : Value) (ts : List ByteArray) (t : ByteArray) (hs : a.eval s = v) (hown : RowS W0 B v ts) (hx : a.eval x = .slice (some ⟨W0.heap.size, 0, none⟩) 1 1) (h10 : ts.length ≤ 100) (hB : B ≤ W0.heap.size)
    (h : ∀ v' w', RowS w' B v' (ts ++ [t]) → (W0.alloc (.cells #[.string t] 9)).grownBy w' v.ownBlock → (v'.ownBlock = v.ownBlock ∨ v'.ownBlock = some (W0.heap.size + 1)) → wpList Try.prog ops Q rest (a.put o.dst v') w') :
    wpList Try.prog ops Q (o :: rest) a (W0.alloc (.cells #[.string t] 9)) := by
  obtain ⟨i0, hi, hzz⟩ := Option.map_eq_some_iff.1 infoS
  simp only [Prod.mk.injEq] at hzz
  obtain ⟨hz0, hz1, hz2⟩ := hzz
  refine wpList_append_own_at _ hgd s x 35 ho B 9 i0 (.string ⟨#[]⟩) 1 16 Try.underlying35 hi hz0 hz1 hz2 rfl (by decide) v ts.length (ts.map Value.string) hs (World.ownsRow.alloc hown _) ⟨W0.heap.size, 0, Option.none⟩ 1 1 [.string t] hx rfl ?_ ?_ (by unfold maxLen; omega) (by omega) (by rw [World.size_alloc]; omega) (fun v' w' h1 h2 _ h4 => h v' w' ?_ h2 (by rw [World.size_alloc] at h4; exact h4))
  · intro j u' hj
    match j, hj with
    | 0, hj => simp at hj; subst hj; exact new_cell rfl rfl
  · intro u' hu; simp at hu; subst hu; rfl
  · unfold RowS
    rw [List.length_append, List.map_append]; exact h1
theorem RowS.cells {W : World} {B : Nat} {v : Value} {ts : List ByteArray} (h : RowS W B v ts) (h0 : 0 < ts.length) : ∃ g cap, v = .slice (some ⟨g, 0, Option.none⟩) ts.length cap ∧ B ≤ g ∧ ∀ j, j < ts.length → W.cell? ⟨g, j, Option.none⟩ = some (.string (ts.getD j ByteArray.empty)) := by
  rcases h.2 with ⟨hv, hn⟩ | ⟨g, cp, cur, hv, hb, _⟩
  · omega
  · subst hv
    refine ⟨g, cp, rfl, hb, fun j hj => ?_⟩
    rw [World.ownsRow.cellAt h j (by omega), List.getElem?_map, List.getD_eq_getElem?_getD, List.getElem?_eq_getElem hj]; rfl
end Go.Proofs.Ytobgopiadfinbaa
