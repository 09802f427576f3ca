/-
  THE CONTRACT OF head.Read: the head of a sector.
-/
import Derived.Test.YtpoagfldekppkaaDoorHdLaid
import Derived.Test.YtpoagfldekppkaaDoorNTakeD
namespace Go.Proofs.YtpoagfldekppkaaDoor
open Go.RowKit
/-- So many numbers of eight bytes. -/
def nsOf : Nat → ByteArray → Option (List Nat)
  | 0, _ => some []
  | k + 1, s => match takeOf s 8 with
    | none => none
    | some (n, r) => (nsOf k r).map fun l => n :: l
abbrev Hd5 := Int × Int × Int × Int × Int
def readHd (s : ByteArray) : Option Hd5 :=
  match nsOf 5 s with
  | some [a, b, c, d, e] => if hdOk a b c d e = true ∧ hdStr a b c d e = s then some (a, b, c, d, e) else none
  | _ => none
theorem nsOf_len : ∀ {k : Nat} {s : ByteArray} {l : List Nat}, nsOf k s = some l → l.length = k
  | 0, _, l, h => by
    rw [nsOf] at h; injection h with h; rw [← h]; rfl
  | k + 1, s, l, h => by
    rw [nsOf] at h
    split at h
    · cases h
    · rename_i n r _
      cases h2 : nsOf k r with
      | none => rw [h2] at h; cases h
      | some l2 =>
        rw [h2] at h
        injection h with h
        rw [← h, List.length_cons, nsOf_len h2]
theorem nsOf_step {k : Nat} {s t r : ByteArray} {ns : List Nat} {n : Nat} (h : nsOf 5 s = (nsOf (5 - k) t).map (ns ++ ·)) (hk : k < 5) (ht : takeOf t 8 = some (n, r)) : nsOf 5 s = (nsOf (5 - (k + 1)) r).map ((ns ++ [n]) ++ ·) := by
  rw [h, show 5 - k = (5 - (k + 1)) + 1 by omega, nsOf, ht]
  simp only
  cases nsOf (5 - (k + 1)) r with
  | none => rfl
  | some l => simp
theorem nsOf_none {k : Nat} {s t : ByteArray} {ns : List Nat} (h : nsOf 5 s = (nsOf (5 - k) t).map (ns ++ ·)) (hk : k < 5) (ht : takeOf t 8 = none) : readHd s = none := by
  have : nsOf 5 s = none := by
    rw [h, show 5 - k = (5 - (k + 1)) + 1 by omega, nsOf, ht]; rfl
  unfold readHd
  rw [this]
theorem takeOf_less {s r : ByteArray} {n : Nat} (h : takeOf s 8 = some (n, r)) : r.size + 8 = s.size ∧ n ≤ 9223372036854775807 := by
  unfold takeOf at h
  split at h
  · rename_i h0
    injection h with h
    injection h with h1 h2
    subst h1 h2
    obtain ⟨_, _, a, b⟩ := h0
    refine ⟨?_, b⟩
    rw [ByteArray.size_extract]
    show min s.size s.size - 8 + 8 = s.size
    omega
  · cases h
theorem tk_some {s r : ByteArray} {n : Nat} (h : takeOf s 8 = some (n, r)) : takeVal s 8 = .tuple #[.int .i64 n, .string r, .bool true] := by unfold takeVal; rw [h]
theorem tk_none {s : ByteArray} (h : takeOf s 8 = none) : takeVal s 8 = .tuple #[.int .i64 0, .string s, .bool false] := by unfold takeVal; rw [h]
/-- Five cells in a row. -/
structure C5 (W : World) (R : Nat) (v0 v1 v2 v3 v4 : Value) : Prop where
  c0 : W.cell? ⟨R, 0, none⟩ = some v0
  c1 : W.cell? ⟨R, 1, none⟩ = some v1
  c2 : W.cell? ⟨R, 2, none⟩ = some v2
  c3 : W.cell? ⟨R, 3, none⟩ = some v3
  c4 : W.cell? ⟨R, 4, none⟩ = some v4
theorem C5.below {W X : World} {R : Nat} {v0 v1 v2 v3 v4 : Value} (h : C5 W R v0 v1 v2 v3 v4) (hb : Below W.heap.size W X) : C5 X R v0 v1 v2 v3 v4 := ⟨keep_h hb h.c0, keep_h hb h.c1, keep_h hb h.c2, keep_h hb h.c3, keep_h hb h.c4⟩
theorem C5.new (W : World) (v0 v1 v2 v3 v4 : Value) (T : TypeId) : C5 (W.alloc (.cells #[v0, v1, v2, v3, v4] T)) W.heap.size v0 v1 v2 v3 v4 := ⟨new_h rfl rfl, new_h rfl rfl, new_h rfl rfl, new_h rfl rfl, new_h rfl rfl⟩
theorem C5.other {W : World} {R Q i : Nat} {v0 v1 v2 v3 v4 u : Value} (h : C5 W R v0 v1 v2 v3 v4) (hne : R ≠ Q) : C5 (W.setCell ⟨Q, i, none⟩ u) R v0 v1 v2 v3 v4 := by
  have o : ∀ j v, W.cell? ⟨R, j, none⟩ = some v → (W.setCell ⟨Q, i, none⟩ u).cell? ⟨R, j, none⟩ = some v := fun j v hc => by
    rw [World.cell?_setCell_other _ _ _ _ (fun e => by injection e with e _; exact hne e.symm)]; exact hc
  exact ⟨o _ _ h.c0, o _ _ h.c1, o _ _ h.c2, o _ _ h.c3, o _ _ h.c4⟩
def set5W (W : World) (R : Nat) (v0 v1 v2 v3 v4 : Value) : World := ((((W.setCell ⟨R, 0, none⟩ v0).setCell ⟨R, 1, none⟩ v1).setCell ⟨R, 2, none⟩ v2).setCell ⟨R, 3, none⟩ v3).setCell ⟨R, 4, none⟩ v4
theorem set5_cells {W : World} {R : Nat} {u0 u1 u2 u3 u4 v0 v1 v2 v3 v4 : Value} (h : C5 W R u0 u1 u2 u3 u4) : C5 (set5W W R v0 v1 v2 v3 v4) R v0 v1 v2 v3 v4 := by
  have ne : ∀ i j : Nat, i ≠ j → (⟨R, i, none⟩ : Addr) ≠ ⟨R, j, none⟩ := fun i j hij e => by injection e with _ e2; exact hij e2
  have oth : ∀ {W : World} (i j : Nat) (v u : Value), i ≠ j → W.cell? ⟨R, j, none⟩ = some u → (W.setCell ⟨R, i, none⟩ v).cell? ⟨R, j, none⟩ = some u := fun i j v u hij hu => by
    rw [World.cell?_setCell_other _ _ _ _ (ne i j hij)]; exact hu
  have same : ∀ {W : World} (i : Nat) (v u : Value), W.cell? ⟨R, i, none⟩ = some u → (W.setCell ⟨R, i, none⟩ v).cell? ⟨R, i, none⟩ = some v := fun i v u hu => World.cell?_setCell_same _ _ _ hu
  unfold set5W
  exact ⟨oth 4 0 _ _ (by decide) (oth 3 0 _ _ (by decide) (oth 2 0 _ _ (by decide) (oth 1 0 _ _ (by decide) (same 0 _ _ h.c0)))),
    oth 4 1 _ _ (by decide) (oth 3 1 _ _ (by decide) (oth 2 1 _ _ (by decide) (same 1 _ _ (oth 0 1 _ _ (by decide) h.c1)))),
    oth 4 2 _ _ (by decide) (oth 3 2 _ _ (by decide) (same 2 _ _ (oth 1 2 _ _ (by decide) (oth 0 2 _ _ (by decide) h.c2)))),
    oth 4 3 _ _ (by decide) (same 3 _ _ (oth 2 3 _ _ (by decide) (oth 1 3 _ _ (by decide) (oth 0 3 _ _ (by decide) h.c3)))),
    same 4 _ _ (oth 3 4 _ _ (by decide) (oth 2 4 _ _ (by decide) (oth 1 4 _ _ (by decide) (oth 0 4 _ _ (by decide) h.c4))))⟩
theorem set5_below {W w : World} {R : Nat} {v0 v1 v2 v3 v4 : Value} (hb : Below w.heap.size w W) (hR : w.heap.size ≤ R) : Below w.heap.size w (set5W W R v0 v1 v2 v3 v4) := by
  unfold set5W
  exact ((((hb.setCell hR _).setCell hR _).setCell hR _).setCell hR _).setCell hR _
/-- The array of numbers, as far as they are taken. -/
structure Ar5 (W : World) (A : Nat) (ns : List Nat) : Prop where
  at' : ∀ j, j < 5 → W.cell? ⟨A, j, none⟩ = some (.int .i64 (ns.getD j 0 : Nat))
  fz : ∀ i, W.frozen? ⟨A, i, none⟩ = false
theorem Ar5.below {W X : World} {A : Nat} {ns : List Nat} (h : Ar5 W A ns) (hb : Below W.heap.size W X) : Ar5 X A ns := ⟨fun j hj => keep_h hb (h.at' j hj), fun i => (hb.frozen (p := ⟨A, i, none⟩) (show A < W.heap.size from blk_of (h.at' 0 (by omega)))).trans (h.fz i)⟩
theorem Ar5.put {W : World} {A : Nat} {ns : List Nat} (h : Ar5 W A ns) (n : Nat) : Ar5 (W.setCell ⟨A, ns.length, none⟩ (.int .i64 n)) A (ns ++ [n]) := by
  refine ⟨fun j hj => ?_, fun i => by rw [World.frozen?_setCell]; exact h.fz i⟩
  by_cases e : j = ns.length
  · subst e
    rw [World.cell?_setCell_same _ _ _ (h.at' _ hj), List.getD_eq_getElem?_getD, List.getElem?_append_right (Nat.le_refl _), Nat.sub_self]
    rfl
  · rw [World.cell?_setCell_other _ _ _ _ (fun q => by injection q with _ q; exact e q.symm), h.at' j hj]
    congr 2
    rw [List.getD_eq_getElem?_getD, List.getD_eq_getElem?_getD]
    by_cases e2 : j < ns.length
    · rw [List.getElem?_append_left e2]
    · rw [List.getElem?_eq_none (by omega), List.getElem?_eq_none (by simp; omega)]
theorem Ar5.new (W : World) (T : TypeId) : Ar5 (W.alloc (.cells #[.int .i64 0, .int .i64 0, .int .i64 0, .int .i64 0, .int .i64 0] T)) W.heap.size [] := by
  refine ⟨fun j hj => ?_, fun i => World.frozen?_alloc_at _ _ _ _ rfl⟩
  match j, hj with
  | 0, _ => exact new_h rfl rfl
  | 1, _ => exact new_h rfl rfl
  | 2, _ => exact new_h rfl rfl
  | 3, _ => exact new_h rfl rfl
  | 4, _ => exact new_h rfl rfl
theorem set5 {W w : World} {R : Nat} {u0 u1 u2 u3 u4 v0 v1 v2 v3 v4 : Value} (h : C5 W R u0 u1 u2 u3 u4) (hb : Below w.heap.size w W) (hR : w.heap.size ≤ R) : ∃ X, ((((W.setCell ⟨R, 0, none⟩ v0).setCell ⟨R, 1, none⟩ v1).setCell ⟨R, 2, none⟩ v2).setCell ⟨R, 3, none⟩ v3).setCell ⟨R, 4, none⟩ v4 = X ∧ C5 X R v0 v1 v2 v3 v4 ∧ Below w.heap.size w X :=
  ⟨_, rfl, set5_cells h, set5_below hb hR⟩
abbrev z64 : Value := .int .i64 0
/-- Read's walk: the result's cells, the numbers that are taken. -/
structure HdW (w W : World) (A : Nat) (ns : List Nat) : Prop where
  r : C5 W w.heap.size z64 z64 z64 z64 z64
  rf : ∀ i, W.frozen? ⟨w.heap.size, i, none⟩ = false
  a : Ar5 W A ns
  bw : Below w.heap.size w W
  hA : w.heap.size < A
theorem HdW.below {w W X : World} {A : Nat} {ns : List Nat} (h : HdW w W A ns) (hb : Below W.heap.size W X) : HdW w X A ns where
  r := h.r.below hb
  rf := fun i => (hb.frozen (p := ⟨w.heap.size, i, none⟩) (show w.heap.size < W.heap.size from blk_of h.r.c0)).trans (h.rf i)
  a := h.a.below hb
  bw := h.bw.trans (hb.mono h.bw.size)
  hA := h.hA
theorem HdW.put {w W : World} {A : Nat} {ns : List Nat} (h : HdW w W A ns) (n : Nat) : HdW w (W.setCell ⟨A, ns.length, none⟩ (.int .i64 n)) A (ns ++ [n]) where
  r := h.r.other (by have := h.hA; omega)
  rf := fun i => by rw [World.frozen?_setCell]; exact h.rf i
  a := h.a.put n
  bw := h.bw.setCell (Nat.le_of_lt h.hA) _
  hA := h.hA
theorem hdW_new (w : World) (T T2 : TypeId) : HdW w ((w.alloc (.cells #[z64, z64, z64, z64, z64] T)).alloc (.cells #[z64, z64, z64, z64, z64] T2)) (w.heap.size + 1) [] := by
  have hb0 : Below w.heap.size w (w.alloc (.cells #[z64, z64, z64, z64, z64] T)) := (Below.refl _ _).alloc (Nat.le_refl _) _
  have hs : (w.alloc (.cells #[z64, z64, z64, z64, z64] T)).heap.size = w.heap.size + 1 := World.size_alloc _ _
  have hb := (Below.refl (w.alloc (.cells #[z64, z64, z64, z64, z64] T)).heap.size (w.alloc (.cells #[z64, z64, z64, z64, z64] T))).alloc (Nat.le_refl _) (.cells #[z64, z64, z64, z64, z64] T2)
  refine ⟨(C5.new w z64 z64 z64 z64 z64 T).below hb, fun i => (hb.frozen (p := ⟨w.heap.size, i, none⟩) (show w.heap.size < _ by omega)).trans (World.frozen?_alloc_at _ _ _ _ rfl), ?_, hb0.trans (hb.mono hb0.size), Nat.lt_succ_self _⟩
  rw [← hs]
  exact Ar5.new _ T2
theorem ns_ne {s : ByteArray} {l : List Nat} (h : nsOf 5 s = some l) : s ≠ ⟨#[]⟩ := by
  rintro rfl
  rw [nsOf, show takeOf ⟨#[]⟩ 8 = none from by unfold takeOf; rw [if_neg (by intro h; exact absurd h.2.2.1 (by decide))]] at h
  cases h
/-- What Read answers. -/
def HdAns (w : World) (o : Option Hd5) (x : Ending) (w' : World) : Prop :=
  (match o with
  | none => x = .returned (.tuple #[.agg #[.int .i64 0, .int .i64 0, .int .i64 0, .int .i64 0, .int .i64 0], .bool false])
  | some (s, e, c, st, m) => x = .returned (.tuple #[.agg #[.int .i64 s, .int .i64 e, .int .i64 c, .int .i64 st, .int .i64 m], .bool true])) ∧ Below w.heap.size w w'
theorem hba_beqL (a b : ByteArray) : (a.toList == b.toList) = decide (a = b) := by
  rw [Bool.eq_iff_iff]
  simp [ByteArray.toList_eq, ByteArray.ext_iff, Array.ext_iff]
theorem hba_neL {a b : ByteArray} (h : a ≠ b) : (a.toList == b.toList) = false := by rw [hba_beqL]; exact decide_eq_false h
theorem hba_neL' {a b : ByteArray} (h : a ≠ b) : ¬ a.toList = b.toList := by
  have := hba_neL h
  rwa [beq_eq_false_iff_ne] at this
set_option maxRecDepth 100000 in
set_option maxHeartbeats 4000000 in
theorem hread_any (s : ByteArray) (w : World) (hs : s.size ≤ 100000) (ht : Tab w) :
    Calls Tryd.prog 33 #[.string s] w (HdAns w (readHd s)) := by
  obtain ⟨O, hO⟩ : ∃ O, readHd s = O := ⟨_, rfl⟩
  rw [hO]
  have HO := Lib.hid hO
  have HT := Lib.hid ht
  clear hO ht
  have T0 := Lib.hid (hdW_new w 44 88)
  have KT := Lib.hid (fun t W (h : t.size ≤ 100000) => take_any t 8 W (by omega) (by omega))
  have HN : Hid (nsOf 5 s = (nsOf (5 - 0) s).map ([] ++ ·)) := by
    rw [Hid]
    cases nsOf 5 s <;> simp
  go_enter Tryd.func33, Tryd.ntmps33
  go_wp2
  generalize (w.alloc (.cells #[.int .i64 0, .int .i64 0, .int .i64 0, .int .i64 0, .int .i64 0] 44)).alloc (.cells #[.int .i64 0, .int .i64 0, .int .i64 0, .int .i64 0, .int .i64 0] 88) = W0 at *
  generalize w.heap.size + 1 = A at *
  go_loopw [5, 10] (fun sv i wr => ∃ (k : Nat) (t : ByteArray) (ns : List Nat), k ≤ 5 ∧ i = .int .i64 k ∧ sv = .string t ∧ t.size ≤ 100000 ∧ ns.length = k ∧ Hid (nsOf 5 s = (nsOf (5 - k) t).map (ns ++ ·)) ∧ Hid (HdW w wr A ns)) (fun _ i _ => 5 - (intOf i).toNat)
  case atStart => exact ⟨0, s, [], Nat.zero_le _, rfl, rfl, hs, rfl, HN, T0⟩
  case round =>
    obtain ⟨k, t, ns, hk, rfl, rfl, ht, hl, HC, HW⟩ := hrel
    rename World => wa
    clear HN T0
    by_cases hlt : k < 5
    · have hk0 : (0 : Int) ≤ (k : Int) := by omega
      have hk1 : (k : Int) < 5 := by omega
      have KA := Lib.hid (fun W => KT.out t W ht)
      cases hx : takeOf t 8 with
      | none =>
        have HO3 : O = none := by rw [← HO.out]; exact nsOf_none HC.out hlt hx
        subst HO3
        rw [tk_none hx] at KA
        clear HO HC KT hx
        go_wp2_with fail
        refine (KA.out _).mono ?_
        rintro e w5 ⟨rfl, hb5⟩
        have H5 := HW.out.below hb5
        have ck := H5.a.at' k hlt
        have cf := H5.a.fz
        subst hl
        have H6 := Lib.hid (H5.put 0)
        clear hb5 HW KA H5
        go_upto_region 7 with fail
        generalize wB : w5.setCell ⟨A, ns.length, none⟩ (.int .i64 0) = Y at *
        obtain ⟨⟨r0, r1, r2, r3, r4⟩, rf, _, bw, _⟩ := H6.out
        clear ck cf wB H6
        go_wp2
        obtain ⟨X, hX, ⟨x0, x1, x2, x3, x4⟩, hbX⟩ := set5 (v0 := .int .i64 0) (v1 := .int .i64 0) (v2 := .int .i64 0) (v3 := .int .i64 0) (v4 := .int .i64 0) ⟨r0, r1, r2, r3, r4⟩ bw (Nat.le_refl _)
        rw [hX]
        refine bodyPost_ret (v := .tuple #[.agg #[.int .i64 0, .int .i64 0, .int .i64 0, .int .i64 0, .int .i64 0], .bool false]) ?_ rfl ⟨rfl, hbX⟩
        simp [results, Tryd.results33, go_sem, x0, x1, x2, x3, x4]
      | some q =>
        obtain ⟨n, r⟩ := q
        obtain ⟨hr1, hr2⟩ := takeOf_less hx
        have HN := Lib.hid (nsOf_step HC.out hlt hx)
        have hrs : r.size ≤ 100000 := by omega
        rw [tk_some hx] at KA
        clear HC KT hx hr1
        go_wp2_with fail
        refine (KA.out _).mono ?_
        rintro e w5 ⟨rfl, hb5⟩
        have H5 := HW.out.below hb5
        have ck := H5.a.at' k hlt
        have cf := H5.a.fz
        subst hl
        have H6 := Lib.hid (H5.put n)
        clear hb5 HW KA H5
        go_upto_region 7 with fail
        generalize wB : w5.setCell ⟨A, ns.length, none⟩ (.int .i64 n) = Y at *
        clear ck cf wB
        go_wp2
        go_roundw
        case rel => exact ⟨ns.length + 1, r, ns ++ [n], by omega, by go_num, rfl, hrs, by rw [List.length_append]; rfl, HN, H6⟩
        case measure => simp [intOf]; omega
    · have hk1 : (5 : Int) ≤ (k : Int) := by omega
      obtain rfl : k = 5 := by omega
      obtain ⟨n0, n1, n2, n3, n4, rfl⟩ : ∃ a b c d e, ns = [a, b, c, d, e] := by
        match ns, hl with
        | [a, b, c, d, e], _ => exact ⟨a, b, c, d, e, rfl⟩
      have hns : nsOf 5 s = some [n0, n1, n2, n3, n4] := by rw [HC.out]; rfl
      have hne := ns_ne hns
      have HO2 : Hid (readHd s = if hdOk n0 n1 n2 n3 n4 = true ∧ hdStr n0 n1 n2 n3 n4 = s then some (↑n0, ↑n1, ↑n2, ↑n3, ↑n4) else none) := by rw [Hid]; unfold readHd; rw [hns]
      rw [HO.out] at HO2
      clear HC hns KT HO hl
      have HTa := Lib.hid (HT.out.below HW.out.bw)
      clear HT hk hlt
      cases hk : hdOk n0 n1 n2 n3 n4 with
      | false =>
        have HO3 : O = none := by rw [HO2.out, if_neg (fun h => by rw [hk] at h; cases h.1)]
        subst HO3
        have hn1 := hba_neL (fun e => hne e.symm)
        have hn2 := hba_neL' (fun e => hne e.symm)
        have hn3 : s.toList.isEmpty = false := by rw [List.isEmpty_eq_false_iff]; intro e; exact hn2 (by rw [e, ByteArray.toList_eq])
        have KL := Lib.hid (fun W => hlaid_bad n0 n1 n2 n3 n4 W hk)
        obtain ⟨_, _, ⟨a, _⟩, _, _⟩ := HW.out
        have a0 := a 0 (by omega)
        have a1 := a 1 (by omega)
        have a2 := a 2 (by omega)
        have a3 := a 3 (by omega)
        have a4 := a 4 (by omega)
        simp only [List.getD_cons_zero, List.getD_cons_succ] at a0 a1 a2 a3 a4
        clear a
        have hby := (Below.refl wa.heap.size wa).alloc (Nat.le_refl _) (.cells #[.int .i64 n0, .int .i64 n1, .int .i64 n2, .int .i64 n3, .int .i64 n4] 44)
        have C1 := Lib.hid (C5.new wa (.int .i64 n0) (.int .i64 n1) (.int .i64 n2) (.int .i64 n3) (.int .i64 n4) 44)
        have H1 := Lib.hid (HW.out.below hby)
        clear hby HW HTa HO2 hne hk
        go_wp2_with fail
        refine (KL.out _).mono ?_
        rintro e w5 ⟨rfl, hb5⟩
        obtain ⟨p0, p1, p2, p3, p4⟩ := C1.out.below hb5
        obtain ⟨⟨r0, r1, r2, r3, r4⟩, rf, _, bw, _⟩ := H1.out.below hb5
        clear hb5 H1 C1 KL
        go_wp2
        obtain ⟨X, hX, ⟨x0, x1, x2, x3, x4⟩, hbX⟩ := set5 (v0 := .int .i64 0) (v1 := .int .i64 0) (v2 := .int .i64 0) (v3 := .int .i64 0) (v4 := .int .i64 0) ⟨r0, r1, r2, r3, r4⟩ bw (Nat.le_refl _)
        rw [hX]
        refine bodyPost_ret (v := .tuple #[.agg #[.int .i64 0, .int .i64 0, .int .i64 0, .int .i64 0, .int .i64 0], .bool false]) ?_ rfl ⟨rfl, hbX⟩
        simp [results, Tryd.results33, go_sem, x0, x1, x2, x3, x4]
      | true =>
        have KL := Lib.hid (fun W hT => hlaid_any n0 n1 n2 n3 n4 W hk hT)
        by_cases he : hdStr n0 n1 n2 n3 n4 = s
        · have HO3 : O = some (↑n0, ↑n1, ↑n2, ↑n3, ↑n4) := by rw [HO2.out, if_pos ⟨hk, he⟩]
          subst HO3
          rw [he] at KL
          obtain ⟨_, _, ⟨a, _⟩, _, _⟩ := HW.out
          have a0 := a 0 (by omega)
          have a1 := a 1 (by omega)
          have a2 := a 2 (by omega)
          have a3 := a 3 (by omega)
          have a4 := a 4 (by omega)
          simp only [List.getD_cons_zero, List.getD_cons_succ] at a0 a1 a2 a3 a4
          clear a
          have hby := (Below.refl wa.heap.size wa).alloc (Nat.le_refl _) (.cells #[.int .i64 n0, .int .i64 n1, .int .i64 n2, .int .i64 n3, .int .i64 n4] 44)
          have C1 := Lib.hid (C5.new wa (.int .i64 n0) (.int .i64 n1) (.int .i64 n2) (.int .i64 n3) (.int .i64 n4) 44)
          have H1 := Lib.hid (HW.out.below hby)
          have HT1 := Lib.hid (HTa.out.below hby)
          clear hby HW HTa HO2 hne hk he
          go_wp2_with fail
          refine (KL.out _ HT1.out).mono ?_
          rintro e w5 ⟨rfl, hb5⟩
          obtain ⟨p0, p1, p2, p3, p4⟩ := C1.out.below hb5
          obtain ⟨⟨r0, r1, r2, r3, r4⟩, rf, _, bw, _⟩ := H1.out.below hb5
          clear hb5 H1 C1 KL HT1
          go_wp2
          obtain ⟨X, hX, ⟨x0, x1, x2, x3, x4⟩, hbX⟩ := set5 (v0 := .int .i64 n0) (v1 := .int .i64 n1) (v2 := .int .i64 n2) (v3 := .int .i64 n3) (v4 := .int .i64 n4) ⟨r0, r1, r2, r3, r4⟩ bw (Nat.le_refl _)
          rw [hX]
          refine bodyPost_ret (v := .tuple #[.agg #[.int .i64 n0, .int .i64 n1, .int .i64 n2, .int .i64 n3, .int .i64 n4], .bool true]) ?_ rfl ⟨rfl, hbX⟩
          simp [results, Tryd.results33, go_sem, x0, x1, x2, x3, x4]
        · have HO3 : O = none := by rw [HO2.out, if_neg (fun h => he h.2)]
          subst HO3
          have hn1 := hba_neL he
          have hn2 := hba_neL' he
          generalize hdStr n0 n1 n2 n3 n4 = sb at *
          obtain ⟨_, _, ⟨a, _⟩, _, _⟩ := HW.out
          have a0 := a 0 (by omega)
          have a1 := a 1 (by omega)
          have a2 := a 2 (by omega)
          have a3 := a 3 (by omega)
          have a4 := a 4 (by omega)
          simp only [List.getD_cons_zero, List.getD_cons_succ] at a0 a1 a2 a3 a4
          clear a
          have hby := (Below.refl wa.heap.size wa).alloc (Nat.le_refl _) (.cells #[.int .i64 n0, .int .i64 n1, .int .i64 n2, .int .i64 n3, .int .i64 n4] 44)
          have C1 := Lib.hid (C5.new wa (.int .i64 n0) (.int .i64 n1) (.int .i64 n2) (.int .i64 n3) (.int .i64 n4) 44)
          have H1 := Lib.hid (HW.out.below hby)
          have HT1 := Lib.hid (HTa.out.below hby)
          clear hby HW HTa HO2 hne hk he
          go_wp2_with fail
          refine (KL.out _ HT1.out).mono ?_
          rintro e w5 ⟨rfl, hb5⟩
          obtain ⟨p0, p1, p2, p3, p4⟩ := C1.out.below hb5
          obtain ⟨⟨r0, r1, r2, r3, r4⟩, rf, _, bw, _⟩ := H1.out.below hb5
          clear hb5 H1 C1 KL HT1
          go_wp2
          obtain ⟨X, hX, ⟨x0, x1, x2, x3, x4⟩, hbX⟩ := set5 (v0 := .int .i64 0) (v1 := .int .i64 0) (v2 := .int .i64 0) (v3 := .int .i64 0) (v4 := .int .i64 0) ⟨r0, r1, r2, r3, r4⟩ bw (Nat.le_refl _)
          rw [hX]
          refine bodyPost_ret (v := .tuple #[.agg #[.int .i64 0, .int .i64 0, .int .i64 0, .int .i64 0, .int .i64 0], .bool false]) ?_ rfl ⟨rfl, hbX⟩
          simp [results, Tryd.results33, go_sem, x0, x1, x2, x3, x4]
end Go.Proofs.YtpoagfldekppkaaDoor
