/-
  A TABLE OF LOCKS: slices.Sort and slices.Compact of a row of texts.
  A TABLE OF LOCKS: pass of one key: the first one of those that wait comes to hold it, the next one doesn't.
-/
import Derived.Test.YtjojempjmpaaaaaLkGo
import Derived.Lib.SlicesCompact
import Derived.Sort.OwnSorted
namespace Go.Proofs.Ytjojempjmpaaaaa
open Go.RowKit Go.Sort
def lb (l : List ByteArray) : List (List UInt8) := l.map fun s => s.data.toList
/-- A slice that reads as these texts. -/
def KeysAt (W : World) (a : Option Addr) (l : List ByteArray) : Prop := l = [] ∨ ∃ b off, a = some ⟨b, off, none⟩ ∧ ∀ i, i < l.length → W.cell? ⟨b, off + i, none⟩ = some (.string (l.getD i ByteArray.empty))
def ofB (l : List (List UInt8)) : List ByteArray := l.map (fun x => ⟨x.toArray⟩)
theorem lb_ofB (l : List (List UInt8)) : lb (ofB l) = l := by unfold lb ofB; simp [Function.comp_def]
theorem ofB_len (l : List (List UInt8)) : (ofB l).length = l.length := by unfold ofB; simp
theorem lb_len (l : List ByteArray) : (lb l).length = l.length := by unfold lb; simp
theorem str_enc (ts : List ByteArray) : ts.map Value.string = (lb ts).map encStr := by
  unfold lb
  rw [List.map_map]
  rfl
theorem enc_str (l : List (List UInt8)) : l.map encStr = (ofB l).map Value.string := by unfold ofB; rw [List.map_map]; rfl
theorem sort_row {W : World} {B : Nat} {v : Value} {ts : List ByteArray} (h : RowS W B v ts) (hl : ts.length ≤ 1000000) :
    Calls Try.prog 41 #[v] W fun e w' => e = .returned (.tuple #[]) ∧ RowS w' B v (ofB ((lb ts).mergeSort fun x y => decide (x ≤ y))) ∧ W.grownBy w' v.ownBlock := by
  rcases h.2 with ⟨hv, hn⟩ | ⟨g, cap, cur, hv, hbase, hb, h1, h2, h3, h4⟩
  · subst hv
    refine (Try.slices_Sort_string_none none 0 W).mono ?_
    rintro e w' ⟨rfl, rfl⟩
    have : ts = [] := List.length_eq_zero_iff.1 hn
    subst this
    exact ⟨rfl, by simpa [lb, ofB] using h, World.grownBy.refl _ _⟩
  · subst hv
    have hlb := lb_len ts
    have h4' : cur.toList.take (lb ts).length = (lb ts).map encStr := by
      rw [hlb, ← str_enc, ← h4, Nat.mul_one]
    have hc := Try.slices_Sort_string g 0 cap (lb ts) W (holds_of_block hb h4') (Array.getElem?_eq_some_iff.1 hb).1 (by omega)
    rw [hlb] at hc
    refine hc.mono ?_
    rintro e w' ⟨rfl, n, os, rfl⟩
    have hq : ((lb ts).mergeSort fun x y => decide (x ≤ y)).length = ts.length := by rw [List.length_mergeSort, hlb]
    have hr := ownsRow_sorted (n := n) (os := os) (ts := (lb ts).mergeSort fun x y => decide (x ≤ y)) (ss := lb ts) (by rw [List.length_mergeSort]) hbase hb (by omega) h2 (by omega)
    rw [hlb, enc_str] at hr
    refine ⟨rfl, ?_, grownBy_sorted _⟩
    unfold RowS
    rw [ofB_len, hq]
    exact hr
theorem compact_row {W : World} {B : Nat} {v : Value} {zs : List ByteArray} (h : RowS W B v zs) (hl : zs.length ≤ 1000000) :
    Calls Try.prog 42 #[v] W fun e w' => ∃ a c, e = .returned (.slice a (ofB (Lib.compact (lb zs))).length c) ∧ KeysAt w' a (ofB (Lib.compact (lb zs))) ∧ W.grownBy w' v.ownBlock ∧ (∀ p, a = some p → v.ownBlock = some p.block) := by
  rcases h.2 with ⟨hv, hn⟩ | ⟨g, cap, cur, hv, hbase, hb, h1, h2, h3, h4⟩
  · subst hv
    have : zs = [] := List.length_eq_zero_iff.1 hn
    subst this
    refine (Try.slices_Compact_string_empty none 0 W).mono ?_
    rintro e w' ⟨rfl, rfl⟩
    exact ⟨none, 0, by simp [lb, ofB, Lib.compact, Lib.compactUpTo], .inl (by simp [lb, ofB, Lib.compact, Lib.compactUpTo]), World.grownBy.refl _ _, fun p e => by cases e⟩
  · subst hv
    have hlb := lb_len zs
    have h4' : cur.toList.take (lb zs).length = (lb zs).map encStr := by
      rw [hlb, ← str_enc, ← h4, Nat.mul_one]
    have hc := Try.slices_Compact_string g 0 cap (lb zs) W (holds_of_block hb h4') (by omega) (by omega)
    rw [hlb] at hc
    refine hc.mono ?_
    rintro e w' ⟨rfl, n, rfl⟩
    have hcl : (Lib.compact (lb zs)).length ≤ zs.length := by
      rw [← hlb]
      show (Lib.compactUpTo (lb zs).toArray (lb zs).length).length ≤ _
      unfold Lib.compactUpTo
      rw [List.length_map]
      refine Nat.le_trans (List.length_filter_le _ _) ?_
      simp
    generalize Lib.compact (lb zs) = cz at *
    have hr := ownsRow_sorted (n := n) (os := #[]) (ts := cz ++ List.replicate (zs.length - cz.length) []) (ss := lb zs) (by rw [List.length_append, List.length_replicate, hlb]; omega) hbase hb (by omega) h2 (by omega)
    have hg := grownBy_sorted (w := W) (g := g) (n := n) (os := #[]) (cz ++ List.replicate (zs.length - cz.length) []).toArray
    rw [grow_empty] at hr hg
    refine ⟨_, _, by rw [ofB_len], ?_, hg, fun p e => by injection e with e; rw [← e]; rfl⟩
    refine .inr ⟨g, 0, rfl, fun i hi => ?_⟩
    rw [ofB_len] at hi
    rw [hlb] at hr
    rw [Nat.zero_add, World.ownsRow.cellAt hr i (by omega), List.getElem?_map, List.getElem?_append_left hi]
    unfold ofB
    rw [List.getD_eq_getElem?_getD, List.getElem?_map, List.getElem?_eq_getElem hi]
    rfl
theorem ofB_lb (l : List ByteArray) : ofB (lb l) = l := by unfold lb ofB; simp [Function.comp_def]
theorem sort_one {W : World} {B : Nat} {v : Value} {k : ByteArray} (h : RowS W B v [k]) : Calls Try.prog 41 #[v] W fun e w' => e = .returned (.tuple #[]) ∧ RowS w' B v [k] ∧ W.grownBy w' v.ownBlock := by
  have h1 := sort_row h (by simp)
  rw [show (lb [k]).mergeSort (fun x y => decide (x ≤ y)) = lb [k] by unfold lb; simp, ofB_lb] at h1
  exact h1
theorem compact_one {W : World} {B : Nat} {v : Value} {k : ByteArray} (h : RowS W B v [k]) : Calls Try.prog 42 #[v] W fun e w' => ∃ b off c, e = .returned (.slice (some ⟨b, off, none⟩) 1 c) ∧ w'.cell? ⟨b, off, none⟩ = some (.string k) ∧ W.grownBy w' v.ownBlock := by
  have h1 := compact_row h (by simp)
  have e1 : Lib.compact (lb [k]) = lb [k] := by unfold lb; rfl
  rw [e1, ofB_lb] at h1
  refine h1.mono ?_
  rintro e w' ⟨a, c, rfl, hk, hg, _⟩
  rcases hk with hk | ⟨b, off, rfl, hk⟩
  · cases hk
  · exact ⟨b, off, c, rfl, hk 0 (by simp), hg⟩
end Go.Proofs.Ytjojempjmpaaaaa

namespace Go.Proofs.Ytjojempjmpaaaaa
open Go.RowKit
def RowI (W : World) (B : Nat) (v : Value) (ts : List Int) : Prop := W.ownsRow B 3 1 v ts.length (ts.map (Value.int .i64))
theorem infoI : (Try.prog.info? 3).map (fun i => (i.zero, i.size, i.bytes)) = some (some (.int .i64 0), 1, 8) := by kernel_rfl
theorem append_i {w : World} {ops : Array Oper} {rest : List Oper} {o : Oper} {a : Act} {Q : Exit → Act → World → Prop} (hgd : o.guard = none) (s x : Operand)
    (ho : o.op = .call { callee := .builtin .append, args := #[s, x], argTypes := #[32, 32] })
    (B : Nat) (v : Value) (ts : List Int) (ad : Addr) (t : Int) (c : Nat) (hs : a.eval s = v) (hown : RowI w B v ts) (hx : a.eval x = .slice (some ad) 1 c) (hc : w.cell? (ad.add 0) = some (.int .i64 t)) (h10 : ts.length ≤ 1000000) (hB : B ≤ w.heap.size)
    (h : ∀ v' w', RowI w' B v' (ts ++ [t]) → w.grownBy w' v.ownBlock → wpList Try.prog ops Q rest (a.put o.dst v') w') :
    wpList Try.prog ops Q (o :: rest) a w := by
  obtain ⟨i0, hi, hzz⟩ := Option.map_eq_some_iff.1 infoI
  simp only [Prod.mk.injEq] at hzz
  obtain ⟨hz0, hz1, hz2⟩ := hzz
  refine wpList_append_own_at _ hgd s x 32 ho B 3 i0 (.int .i64 0) 1 8 Try.underlying32 hi hz0 hz1 hz2 rfl (by decide) v ts.length (ts.map (Value.int .i64)) hs hown ad 1 c [.int .i64 t] hx rfl ?_ ?_ (by unfold maxLen; omega) (by omega) hB (fun v' w' h1 h2 _ _ => h v' w' ?_ h2)
  · intro j u' hj
    match j, hj with
    | 0, hj => simp at hj; subst hj; exact hc
  · intro u' hu; simp at hu; subst hu; rfl
  · unfold RowI
    rw [List.length_append, List.map_append]; exact h1
theorem RowI.one {W : World} {B : Nat} {v : Value} {t : Int} (h : RowI W B v [t]) : ∃ g c, v = .slice (some ⟨g, 0, none⟩) 1 c ∧ W.cell? ⟨g, 0, none⟩ = some (.int .i64 t) := by
  rcases h.2 with ⟨hv, hn⟩ | ⟨g, cp, cur, hv, hb, _⟩
  · simp at hn
  · subst hv
    refine ⟨g, cp, rfl, ?_⟩
    rw [World.ownsRow.cellAt h 0 (by simp)]
    rfl
/-- All blocks of a table lie below a bound. -/
structure Under (s : Lk) (T ml mh mw V : Nat) : Prop where
  a : T < V ∧ ml < V ∧ mh < V ∧ mw < V
  m : ∀ o m, s.hm o = some m → m < V
  k : ∀ k K, s.lk k = some K → K < V
  x : ∀ i k x, i < 3 → x ∈ s.q i k → x < V
  p : ∀ b c, s.pas b = some c → b < V
section
variable {B : Nat} {W X : World} {T ml mh mw n : Nat} {s : Lk}
theorem LkAt.under (h : LkAt B W T ml mh mw n s) : Under s T ml mh mw W.heap.size :=
  ⟨⟨block_lt (p := ⟨T, 0, none⟩) h.t0, h.m0.lt, h.m1.lt, h.m2.lt⟩, fun o m e => (h.md o m e).lt, fun k K e => (h.qa k K e 0 (by decide)).lt, fun i k x hi hx => (h.wc i k x hi hx).lt, fun b c e => h.ps.lt e⟩
/-- A row of the call's own was written. -/
theorem LkAt.rowW (h : LkAt B W T ml mh mw n s) {V : Nat} (hu : Under s T ml mh mw V) {v : Value} {ts : List ByteArray} (hr : RowS W V v ts) (hg : W.grownBy X v.ownBlock) : LkAt B X T ml mh mw n s ∧ Below B W X := by
  obtain ⟨⟨u1, u2, u3, u4⟩, u5, u6, u7, u8⟩ := hu
  have hBV : B ≤ V := by have := h.bt.1; omega
  cases e : v.ownBlock with
  | none =>
    rw [e] at hg
    have hb : Below W.heap.size W X := ⟨hg.os, hg.tape, hg.output, hg.size, fun j hj => hg.block j hj (by simp)⟩
    exact ⟨h.below hb, hb.mono h.lts⟩
  | some g =>
    rw [e] at hg
    have hgV : V ≤ g := (World.ownsRow.lt hr g e).1
    refine ⟨h.keep (Cf.grown hg) (fun _ => by show ¬ T = g; omega) (fun m hm _ => ?_) (fun k K e2 _ => by
      have := u6 k K e2
      show ¬ K = g
      omega) (fun i k x hi hx _ => by
      have := u7 i k x hi hx
      show ¬ x = g
      omega) (fun b c e2 _ => by
      have := u8 b c e2
      show ¬ b = g
      omega), (Below.refl B W).grown hg h.lts (fun g' e2 => by injection e2 with e2; omega)⟩
    show ¬ m = g
    rcases hm with rfl | rfl | rfl | ⟨o, e2⟩
    · omega
    · omega
    · omega
    · have := u5 o m e2
      omega
/-- Behind the one that came to hold the key. -/
noncomputable def passS (s : Lk) (k : ByteArray) (w : Nat) (r : List Nat) (m : Nat) : Lk := heldS (leftS s k [] r (s.con w).ow) m w (s.con w)
/-- What is asked of the one that passes, and of the next one. -/
structure PassOk (s : Lk) (k : ByteArray) (w K : Nat) (r : List Nat) : Prop where
  k0 : s.lk k = some K
  rd : s.q 1 k = []
  ot : s.q 2 k = w :: r
  ck : (s.con w).k = k
  hh : s.hd (s.con w).ow k = none
  wf : (Lit.int .i64 (s.con w).ow).wf = true
  fr : freeB s.con (s.con w) (s.q 0 k) = true
  st : ∀ z r', r = z :: r' → freeB s.con (s.con z) (s.q 0 k ++ [w]) = false
  ks : k.size ≤ 1000
theorem updC_self (f : Nat → Wc) (w : Nat) : updC f w (f w) = f := by
  funext b
  unfold updC
  by_cases e : b = w
  · rw [if_pos e, e]
  · rw [if_neg e]
theorem pass_q {k : ByteArray} {w m K : Nat} {r : List Nat} (h : PassOk s k w K r) : (passS s k w r m).q 0 k = s.q 0 k ++ [w] ∧ (passS s k w r m).q 1 k = [] ∧ (passS s k w r m).q 2 k = r ∧ (passS s k w r m).con = s.con ∧ (passS s k w r m).lk k = some K := by
  have e0 : (leftS s k [] r (s.con w).ow).q 0 k = s.q 0 k := by
    show updQ s.q 2 k ([] ++ r) 0 k = _
    rw [updQ_other _ _ (fun c => by simp at c)]
  have ne : ∀ (f : Nat → ByteArray → List Nat) (i : Nat) (k0 : ByteArray) (q : List Nat) (i' : Nat) (k' : ByteArray), i' ≠ i → updQ f i k0 q i' k' = f i' k' := fun f i k0 q i' k' hn => updQ_other f q (fun c => hn c.1)
  refine ⟨?_, ?_, ?_, updC_self _ _, h.k0⟩
  · show updQ (leftS s k [] r (s.con w).ow).q 0 (s.con w).k ((leftS s k [] r (s.con w).ow).q 0 (s.con w).k ++ [w]) 0 k = _
    rw [h.ck, updQ_same, e0]
  · exact (ne (leftS s k [] r (s.con w).ow).q 0 (s.con w).k ((leftS s k [] r (s.con w).ow).q 0 (s.con w).k ++ [w]) 1 k (by decide)).trans ((ne s.q 2 k ([] ++ r) 1 k (by decide)).trans h.rd)
  · exact (ne (leftS s k [] r (s.con w).ow).q 0 (s.con w).k ((leftS s k [] r (s.con w).ow).q 0 (s.con w).k ++ [w]) 2 k (by decide)).trans (updQ_same s.q 2 k ([] ++ r))
/-- leave and hold of the one that passes. -/
theorem pass_hold {k : ByteArray} {w K : Nat} {r : List Nat} (hp : PassOk s k w K r) {W1 : World} (h : LkAt B W1 T ml mh mw (n + 1) (leftS s k ([] : List Nat) r (s.con w).ow)) (hf : Fw W1 w (s.con w)) (hnf : ∀ j k', j < 3 → w ∉ (leftS s k ([] : List Nat) r (s.con w).ow).q j k') (hnp : ∀ b c, s.pas b = some c → b ≠ w) (hB : B ≤ w) (hn : n ≤ 100000) :
    Calls Try.prog 32 #[.pointer (some ⟨T, 0, none⟩), .pointer (some ⟨w, 0, none⟩)] W1 fun e W' => e = .returned (.tuple #[]) ∧ ∃ m, LkAt B W' T ml mh mw (n + 3) (passS s k w r m) ∧ Below B W1 W' := by
  have hks : (s.con w).k.size ≤ maxLen := by rw [hp.ck]; have := hp.ks; unfold maxLen; omega
  have hk : (leftS s k ([] : List Nat) r (s.con w).ow).lk (s.con w).k = some K := by rw [hp.ck]; exact hp.k0
  have key : ∀ {e : Ending} {W' : World}, HoP B T ml mh mw (n + 1) (leftS s k ([] : List Nat) r (s.con w).ow) w (s.con w) W1 e W' → e = .returned (.tuple #[]) ∧ ∃ m, LkAt B W' T ml mh mw (n + 3) (passS s k w r m) ∧ Below B W1 W' := fun hp => by
    obtain ⟨e, m, h1, h2⟩ := hp
    exact ⟨e, m, h1, h2⟩
  cases hm : s.hm (s.con w).ow with
  | none => exact (hold_new h hf hnf hnp hB hk hm hks hp.wf (by unfold maxLen; omega)).mono (fun _ _ q => key q)
  | some m => exact (hold_in h hf hnf hnp hB hk hm (by rw [hp.ck]; exact hp.hh) hks hp.wf (by unfold maxLen; omega)).mono (fun _ _ q => key q)
/-- What pass leaves. -/
def PaP (B : Nat) (T ml mh mw n : Nat) (s : Lk) (k : ByteArray) (w : Nat) (r : List Nat) (W : World) (e : Ending) (W' : World) : Prop :=
  ∃ g c m, e = .returned (.slice (some ⟨g, 0, none⟩) 1 c) ∧ W'.cell? ⟨g, 0, none⟩ = some (.int .i64 (s.con w).ow) ∧ LkAt B W' T ml mh mw (n + 3) (passS s k w r m) ∧ Below B W W'
/-- Where the walk of pass stands: ahead of the one that passes, behind it. -/
structure PsA (B : Nat) (W wr : World) (T ml mh mw n : Nat) (s : Lk) : Prop where
  t : LkAt B wr T ml mh mw n s
  b : Below B W wr
structure PsB (B : Nat) (W wr : World) (T ml mh mw n : Nat) (s : Lk) (k : ByteArray) (w : Nat) (r : List Nat) (m : Nat) (v : Value) : Prop where
  t : LkAt B wr T ml mh mw (n + 3) (passS s k w r m)
  v : RowI wr B v [(s.con w).ow]
  b : Below B W wr
set_option maxRecDepth 100000 in
set_option maxHeartbeats 4000000 in
theorem pass_one (h : LkAt B W T ml mh mw n s) {k : ByteArray} {w K V : Nat} {r : List Nat} (hp : PassOk s k w K r) {g0 c0 : Nat} (hu : Under s T ml mh mw V) (hr : RowS W V (.slice (some ⟨g0, 0, none⟩) 1 c0) [k]) (hn : n ≤ 100000) :
    Calls Try.prog 36 #[.pointer (some ⟨T, 0, none⟩), .slice (some ⟨g0, 0, none⟩) 1 c0] W (PaP B T ml mh mw n s k w r W) := by
  have KS := Lib.hid (sort_one hr)
  have KC := Lib.hid (fun W1 (h1 : RowS W1 V (.slice (some ⟨g0, 0, none⟩) 1 c0) [k]) => compact_one h1)
  have H0 := Lib.hid h
  have HP := Lib.hid hp
  have HU := Lib.hid hu
  have HR := Lib.hid hr
  clear h hp hu hr
  go_enter Try.func36, Try.ntmps36
  go_wp2_with fail
  refine KS.out.mono ?_
  rintro e w1 ⟨rfl, hr1, hg1⟩
  obtain ⟨h1, hb1⟩ := H0.out.rowW HU.out HR.out hg1
  have KC1 := Lib.hid (KC.out w1 hr1)
  have HR1 := Lib.hid hr1
  have H1 := Lib.hid h1
  have HB1 := Lib.hid hb1
  clear hr1 hg1 h1 hb1 KS KC
  go_wp2_with fail
  refine KC1.out.mono ?_
  rintro e w2 ⟨b2, off2, c2, rfl, hc2, hg2⟩
  obtain ⟨h2, hb2⟩ := H1.out.rowW HU.out HR1.out hg2
  have A0 : Hid (PsA B W w2 T ml mh mw n s) := ⟨h2, HB1.out.trans hb2⟩
  clear hg2 h2 hb2 KC1 H0 HR HR1 H1 HB1
  go_wp2
  go_loopw [5, 7, 8, 9, 15] (fun v _ _ _ i wr => (i = .int .i64 0 ∧ v = .slice none 0 0 ∧ wr = w2) ∨ (i = .int .i64 1 ∧ ∃ m, Hid (PsB B W wr T ml mh mw n s k w r m v))) (fun _ _ _ _ i _ => 1 - (intOf i).toNat)
  case atStart => exact .inl ⟨rfl, rfl, rfl⟩
  case round =>
    rename World => wr
    rcases hrel with ⟨rfl, rfl, rfl⟩ | ⟨rfl, m, st⟩
    · have P := HP.out
      have t0 := A0.out.t.t0
      have l3 := A0.out.t.m0.look lockMap k (show k.size ≤ maxLen by have := P.ks; unfold maxLen; omega)
      rw [P.k0] at l3
      have l3 : (Instr.lookup 56 (.map (some ml)) (.string k) false).run Try.prog wr = .ok (.pointer (some ⟨K, 0, none⟩)) wr := l3
      have KF := first_any (A0.out.t.qa k K P.k0 1 (by decide)) (A0.out.t.qa k K P.k0 2 (by decide))
      rw [P.rd, P.ot] at KF
      have KF : Hid (Calls Try.prog 30 #[.pointer (some ⟨K, 0, none⟩)] wr fun e W' => e = .returned (.pointer (some ⟨w, 0, none⟩)) ∧ wr = W') := KF
      clear P
      go_wp2_with fail
      refine KF.out.mono ?_
      rintro e w3 ⟨rfl, rfl⟩
      clear KF l3 t0 hc2
      go_wp2
      go_loopw [5, 9] (fun v u wx => (v = .slice none 0 0 ∧ u = .pointer (some ⟨w, 0, none⟩) ∧ wx = wr) ∨ (∃ m, u = pV r.head? ∧ Hid (PsB B W wx T ml mh mw n s k w r m v))) (fun v _ _ => match v with | .slice none _ _ => 1 | _ => 0)
      case atStart => exact .inl ⟨rfl, rfl, rfl⟩
      case round =>
        rename World => wx
        rcases hrel with ⟨rfl, rfl, rfl⟩ | ⟨m, rfl, st⟩
        · have P := HP.out
          have KR := free_any s.con (A0.out.t.qa k K P.k0 0 (by decide)) (A0.out.t.wc 2 k w (by decide) (by rw [P.ot]; simp)) (fun z hz => A0.out.t.wc 0 k z (by decide) hz)
          rw [P.fr] at KR
          have KR := Lib.hid KR
          have KL := Lib.hid (fun X (hX : LkAt B X T ml mh mw n s) => leave_any (q1 := []) (q2 := r) hX P.k0 P.ot P.ck P.hh (show k.size ≤ maxLen by have := P.ks; unfold maxLen; omega) P.wf)
          have HBw := Lib.hid (A0.out.t.bw 2 k w (by decide) (by rw [P.ot]; simp))
          have HPw := Lib.hid (fun b c (e : s.pas b = some c) => A0.out.t.ps.px b c 2 k w e (by decide) (by rw [P.ot]; simp))
          clear P
          go_wp2_with fail
          refine KR.out.mono ?_
          rintro e w4 ⟨rfl, hb4⟩
          have A4 : Hid (PsA B W w4 T ml mh mw n s) := ⟨A0.out.t.below hb4, A0.out.b.trans (hb4.mono A0.out.t.lts)⟩
          have KL4 := Lib.hid (KL.out w4 A4.out.t)
          clear hb4 KR KL
          go_wp2_with fail
          refine KL4.out.mono ?_
          rintro e w5 ⟨rfl, h5, f5, nf5, hb5⟩
          have KH := Lib.hid (pass_hold HP.out h5 f5 nf5 HPw.out HBw.out hn)
          have HB5 := Lib.hid (A4.out.b.trans hb5)
          clear h5 f5 nf5 hb5 KL4 A4
          go_wp2_with fail
          refine KH.out.mono ?_
          rintro e w6 ⟨rfl, m, h6, hb6⟩
          obtain ⟨e0, e1, e2, e3, e4⟩ := pass_q (m := m) HP.out
          have H6 := Lib.hid h6
          have HB6 := Lib.hid (HB5.out.trans hb6)
          have c6 := (h6.wc 0 k w (by decide) (by rw [e0]; simp)).c2
          rw [e3] at c6
          have hba : Below w6.heap.size w6 (w6.alloc (.cells #[.int .i64 (s.con w).ow] 3)) := (Below.refl _ _).alloc (Nat.le_refl _) _
          have H7 := Lib.hid (h6.below hba)
          have HB7 := Lib.hid (HB6.out.trans (hba.mono h6.lts))
          have hcl : (w6.alloc (.cells #[.int .i64 (s.con w).ow] 3)).cell? ((⟨w6.heap.size, 0, none⟩ : Addr).add 0) = some (.int .i64 (s.con w).ow) := new_cell rfl rfl
          have hl7 := H7.out.lts
          clear h6 hb6 hba KH HB5 e0 e1 e2 e3 e4
          go_wp2_with (at_builtin; refine append_i rfl _ _ rfl B (.slice none 0 0) [] ⟨w6.heap.size, 0, none⟩ (s.con w).ow 1 rfl (World.ownsRow_nil _ _ _ _) rfl hcl (by simp) hl7 ?_)
          intro v7 w7 hr7 hg7
          have hb7 : Below (w6.alloc (.cells #[.int .i64 (s.con w).ow] 3)).heap.size (w6.alloc (.cells #[.int .i64 (s.con w).ow] 3)) w7 := ⟨hg7.os, hg7.tape, hg7.output, hg7.size, fun j hj => hg7.block j hj (by simp [Value.ownBlock])⟩
          have ST : Hid (PsB B W w7 T ml mh mw n s k w r m v7) := ⟨H7.out.below hb7, hr7, HB7.out.trans (hb7.mono H7.out.lts)⟩
          clear hr7 hg7 hb7 H6 HB6 H7 HB7 hcl hl7 c6
          obtain ⟨e0, e1, e2, e3, e4⟩ := pass_q (m := m) HP.out
          have KF := first_any (ST.out.t.qa k K e4 1 (by decide)) (ST.out.t.qa k K e4 2 (by decide))
          rw [e1, e2, List.nil_append] at KF
          have KF := Lib.hid KF
          clear e0 e1 e2 e3 e4
          go_wp2_with fail
          refine KF.out.mono ?_
          rintro e w8 ⟨rfl, rfl⟩
          obtain ⟨g8, c8, rfl, _⟩ := ST.out.v.one
          go_wp2
          go_roundw
          case rel => exact .inr ⟨m, rfl, ST⟩
          case measure => simp
        · obtain ⟨e0, e1, e2, e3, e4⟩ := pass_q (m := m) HP.out
          have qh := (st.out.t.qa k K e4 0 (by decide)).f
          rw [e0] at qh
          obtain ⟨y, hy⟩ : ∃ y, (s.q 0 k ++ [w]).head? = some y := by
            cases s.q 0 k with
            | nil => exact ⟨w, rfl⟩
            | cons y _ => exact ⟨y, rfl⟩
          rw [hy] at qh
          replace qh : wx.cell? ⟨K, 0, none⟩ = some (.pointer (some ⟨y, 0, none⟩)) := qh
          cases r with
          | nil =>
            simp only [List.head?_nil, pV]
            clear hy e0 e1 e2 e3 e4 A0
            go_wp2
            go_roundw
            case rel => exact .inr ⟨by go_num, m, st⟩
            case measure => simp [intOf]
          | cons z r' =>
            have KR := free_any (passS s k w (z :: r') m).con (st.out.t.qa k K e4 0 (by decide)) (st.out.t.wc 2 k z (by decide) (by rw [e2]; simp)) (fun x hx => st.out.t.wc 0 k x (by decide) hx)
            rw [e0, e3, HP.out.st z r' rfl] at KR
            have KR := Lib.hid KR
            simp only [List.head?_cons, pV]
            clear hy e0 e1 e2 e3 e4 A0
            go_wp2_with fail
            refine KR.out.mono ?_
            rintro e w4 ⟨rfl, hb4⟩
            have qh4 := keep_cell hb4 qh
            have ST : Hid (PsB B W w4 T ml mh mw n s k w (z :: r') m u5) := ⟨st.out.t.below hb4, World.ownsRow.kept st.out.v (row := none) ⟨hb4.os, hb4.tape, hb4.output, hb4.size, fun j hj _ => hb4.block j hj⟩ (by
              cases u5.ownBlock with
              | none => exact .inl rfl
              | some g => exact .inr (fun e => by cases e)), st.out.b.trans (hb4.mono st.out.t.lts)⟩
            clear qh hb4 KR st
            go_wp2
            go_roundw
            case rel => exact .inr ⟨by go_num, m, ST⟩
            case measure => simp [intOf]
    · obtain ⟨g, c, rfl, hc⟩ := st.out.v.one
      have HT := Lib.hid st.out.t
      have HB := Lib.hid st.out.b
      clear st A0 hc2
      go_wp2
      go_ret
      exact ⟨g, c, m, rfl, hc, HT.out, HB.out⟩
end
end Go.Proofs.Ytjojempjmpaaaaa
