/-
  AN AREA AND THE BYTES THAT THE LAW KEEPS BESIDE IT (a row of the call's own); the contracts that law 06's AreaPlays uses.
-/
import Derived.Test.YtckhdknehdjhoaaDoorArBytes
import Derived.Test.YtckhdknehdjhoaaDoorArActs
import Derived.Maps.AppendAt
import Derived.Laws.OwnMore
namespace Go.Proofs.YtckhdknehdjhoaaDoor
open Go.RowKit
/-- A row of bytes of the call's own. -/
def RowB (W : World) (B : Nat) (v : Value) (N : List UInt8) : Prop := W.ownsRow B 5 1 v N.length (Lib.byteCells N)
theorem RowB.below {W W' : World} {B : Nat} {v : Value} {N : List UInt8} (h : RowB W B v N) (hb : Below W.heap.size W W') : RowB W' B v N :=
  World.ownsRow.kept h (row := none) ⟨hb.os, hb.tape, hb.output, hb.size, fun k hk _ => hb.block k hk⟩ (by cases v.ownBlock with
    | none => exact .inl rfl
    | some k => exact .inr (fun e => by cases e))
theorem RowB.none (W : World) (B : Nat) : RowB W B (.slice none 0 0) [] := World.ownsRow_nil _ _ _ _
theorem RowB.fr {P L M B : Nat} {W W' : World} {v : Value} {N : List UInt8} (h : RowB W B v N) (hf : Fr3 P L M W W') (h1 : P < B) (h2 : L < B) (h3 : M < B) : RowB W' B v N := by
  obtain ⟨h0, h⟩ := h
  refine ⟨h0, ?_⟩
  rcases h with h | ⟨g, cap, cur, hv, hb, hg, r⟩
  · exact .inl h
  · exact .inr ⟨g, cap, cur, hv, hb, (hf.block g (blk_lt hg) (by omega) (by omega) (by omega)).trans hg, r⟩
theorem RowB.slice {W : World} {B : Nat} {v : Value} {N : List UInt8} (h : RowB W B v N) : ∃ g cap, v = .slice g N.length cap := by
  rcases h.2 with ⟨hv, hz⟩ | ⟨g, cap, _, hv, _⟩
  · exact ⟨_, 0, by rw [hv, hz]⟩
  · exact ⟨_, _, hv⟩
theorem RowB.cell {W : World} {B g cap : Nat} {N : List UInt8} (h : RowB W B (.slice (some ⟨g, 0, Option.none⟩) N.length cap) N) (j : Nat) (hj : j < N.length) : W.cell? ⟨g, j, Option.none⟩ = some (.int .u8 (N.getD j 0).toNat) := by
  rw [World.ownsRow.cellAt h j (by omega)]
  unfold Lib.byteCells
  rw [List.getElem?_map, List.getD_eq_getElem?_getD, List.getElem?_eq_getElem hj]; rfl
theorem RowB.store {W : World} {B g cap : Nat} {N : List UInt8} (h : RowB W B (.slice (some ⟨g, 0, Option.none⟩) N.length cap) N) (j : Nat) (b : UInt8) : RowB (W.setCell ⟨g, j, Option.none⟩ (.int .u8 b.toNat)) B (.slice (some ⟨g, 0, Option.none⟩) (N.set j b).length cap) (N.set j b) := by
  have h1 := (World.ownsRow.stored h j (.int .u8 b.toNat)).1
  unfold RowB
  rw [List.length_set]
  have e : Lib.byteCells (N.set j b) = (Lib.byteCells N).set j (.int .u8 b.toNat) := by unfold Lib.byteCells; rw [List.map_set]
  rw [e]; exact h1
/-- append of one byte. -/
theorem append_byte {W0 : World} {ops : Array Oper} {rest : List Oper} {o : Oper} {a : Act} {Q : Exit → Act → World → Prop} (hgd : o.guard = none) (s x : Operand)
    (ho : o.op = .call { callee := .builtin .append, args := #[s, x], argTypes := #[30, 30] })
    (B : Nat) (v : Value) (N : List UInt8) (b : UInt8) (z : Int) (hz : z = (b.toNat : Int)) (hs : a.eval s = v) (hown : RowB W0 B v N) (hx : a.eval x = .slice (some ⟨W0.heap.size, 0, none⟩) 1 1) (h10 : N.length ≤ 100000) (hB : B ≤ W0.heap.size)
    (h : ∀ v' w', RowB w' B v' (N ++ [b]) → (W0.alloc (.cells #[.int .u8 z] 5)).grownBy w' v.ownBlock → (v'.ownBlock = v.ownBlock ∨ v'.ownBlock = some (W0.heap.size + 1)) → wpList Tryd.prog ops Q rest (a.put o.dst v') w') :
    wpList Tryd.prog ops Q (o :: rest) a (W0.alloc (.cells #[.int .u8 z] 5)) := by
  subst hz
  obtain ⟨i0, hi, hzz⟩ := Option.map_eq_some_iff.1 infoB
  simp only [Prod.mk.injEq] at hzz
  obtain ⟨hz0, hz1, hz2⟩ := hzz
  refine wpList_append_own_at _ hgd s x 30 ho B 5 i0 (.int .u8 0) 1 1 Tryd.underlying30 hi hz0 hz1 hz2 rfl (by decide) v N.length (Lib.byteCells N) hs (World.ownsRow.alloc hown _) ⟨W0.heap.size, 0, Option.none⟩ 1 1 [.int .u8 b.toNat] hx rfl ?_ ?_ (by unfold maxLen; omega) (by omega) (by rw [World.size_alloc]; omega) (fun v' w' h1 h2 _ h4 => h v' w' ?_ h2 (by rw [World.size_alloc] at h4; exact h4))
  · intro j u' hj
    match j, hj with
    | 0, hj => simp at hj; subst hj; exact new_cell rfl rfl
  · intro u' hu; simp at hu; subst hu; rfl
  · unfold RowB
    rw [List.length_append, Lib.byteCells_append]; exact h1
/-- The device, the area, the bytes beside it. -/
structure Ap (w W : World) (B A D P L M n first count c : Nat) (u lf : Int) (k : Nat) (las : List (List UInt8)) (f : Int → Option (List UInt8)) (N : List UInt8) (g : Nat) : Prop where
  d : DevAt W D P L M n k false u false lf las f
  a : ArAt W A D first count
  nn : first + count ≤ n ∧ n ≤ 20
  u : 0 ≤ u ∧ u ≤ (c : Int)
  k : k ≤ c
  fo : okf n f
  by' : BytesOf N las f first count
  out : ∀ j, j < n → (j < first ∨ first + count ≤ j) → secAt las f j = blank64
  bw : Below w.heap.size w W
  lo : w.heap.size ≤ P ∧ w.heap.size ≤ L ∧ w.heap.size ≤ M
  na : A ≠ P ∧ A ≠ L ∧ A ≠ M
  hi : A < B ∧ D < B ∧ P < B ∧ L < B ∧ M < B
  b : w.heap.size ≤ B ∧ B ≤ g
  sz : B ≤ W.heap.size
  row : RowB W B (.slice (some ⟨g, 0, none⟩) N.length N.length) N
section
variable {w W : World} {B A D P L M n first count c : Nat} {u lf : Int} {k : Nat} {las : List (List UInt8)} {f : Int → Option (List UInt8)} {N : List UInt8} {g : Nat}
theorem Ap.below {W' : World} (h : Ap w W B A D P L M n first count c u lf k las f N g) (hb : Below W.heap.size W W') : Ap w W' B A D P L M n first count c u lf k las f N g :=
  { h with d := h.d.below hb, a := h.a.below hb, bw := h.bw.trans (hb.mono h.bw.size), sz := Nat.le_trans h.sz hb.size, row := h.row.below hb }
theorem Ap.mono {c' : Nat} (h : Ap w W B A D P L M n first count c u lf k las f N g) (hc : c ≤ c') : Ap w W B A D P L M n first count c' u lf k las f N g :=
  { h with u := ⟨h.u.1, by have := h.u.2; omega⟩, k := Nat.le_trans h.k hc }
/-- Blocks of the call's own were written, none of the device's, the area's. -/
theorem ArAt.blocks {W' : World} (h : ArAt W A D first count) (hA : W'.heap[A]? = W.heap[A]?) : ArAt W' A D first count :=
  ⟨(World.cell?_of_block (a := ⟨A, 0, none⟩) hA).trans h.a0, (World.cell?_of_block (a := ⟨A, 1, none⟩) hA).trans h.a1, (World.cell?_of_block (a := ⟨A, 2, none⟩) hA).trans h.a2, h.c⟩
theorem Ap.up {W' : World} {N' : List UInt8} (h : Ap w W B A D P L M n first count c u lf k las f N g) (hb : Below B W W') (hr : RowB W' B (.slice (some ⟨g, 0, none⟩) N'.length N'.length) N') (hN : BytesOf N' las f first count) : Ap w W' B A D P L M n first count c u lf k las f N' g := by
  obtain ⟨a1, d1, p1, l1, m1⟩ := h.hi
  exact { h with
    d := h.d.blocks (hb.block _ d1) (hb.block _ p1) (hb.block _ l1) (hb.block _ m1)
    a := h.a.blocks (hb.block _ a1)
    by' := hN
    bw := h.bw.trans (hb.mono h.b.1)
    sz := Nat.le_trans h.sz hb.size
    row := hr }
theorem Ap.len (h : Ap w W B A D P L M n first count c u lf k las f N g) : N.length = 64 * count := h.by'.len
theorem Ap.cnt (h : Ap w W B A D P L M n first count c u lf k las f N g) : 1 ≤ count ∧ count ≤ 20 ∧ first ≤ 20 ∧ n ≤ 20 := by
  have := h.a.c
  have := h.nn
  omega
theorem ap_get (h : Ap w W B A D P L M n first count c u lf k las f N g) (at' size : Nat) (h0 : at' ≤ 4611686018427387904) (h1 : size ≤ 64 * count) :
    Calls Tryd.prog 12 #[.pointer (some ⟨A, 0, none⟩), .int .i64 (at' : Int), .int .i64 (size : Int)] W fun e w' => e = .returned (.tuple #[.string (txt (ring N (64 * count) at' size)), .int .i64 0]) ∧ Hid (Ap w w' B A D P L M n first count c u lf k las f N g) := by
  refine (get_any h.d h.a (fun z l hz => (h.fo z l hz).2.2) ⟨h.nn.1, by have := h.nn.2; omega⟩ at' size h0 h1).mono ?_
  rintro e w' ⟨rfl, hb⟩
  rw [getL_ring h.by' h.a.c.1 size at' size (Nat.le_refl _)]
  exact ⟨rfl, h.below hb⟩
theorem get_no (ha : ArAt W A D first count) (at' size : Int) (h0 : ¬ ((0 ≤ at' ∧ at' ≤ 4611686018427387904) ∧ 0 ≤ size ∧ size ≤ ((64 * count : Nat) : Int))) :
    Calls Tryd.prog 12 #[.pointer (some ⟨A, 0, none⟩), .int .i64 at', .int .i64 size] W fun e w' => e = .returned (.tuple #[.string ⟨#[]⟩, .int .i64 1]) ∧ w' = W := by
  have KO : Hid (Calls Tryd.prog 17 #[.pointer (some ⟨A, 0, none⟩), .int .i64 at', .int .i64 size] W fun e w' => e = .returned (.int .i64 1) ∧ w' = W) := by
    by_cases hs : 0 ≤ size
    · exact open_no ha at' size (fun h => h0 ⟨h.1, hs, h.2⟩) hs
    · have hs : size < 0 := by omega
      by_cases a0 : 0 ≤ at'
      · by_cases a1 : at' ≤ 4611686018427387904
        · clear h0
          show Calls _ _ _ _ _
          go_enter Tryd.func17, Tryd.ntmps17
          go_wp2
          go_ret
          exact ⟨rfl, rfl⟩
        · have a1 : 4611686018427387904 < at' := by omega
          clear h0
          show Calls _ _ _ _ _
          go_enter Tryd.func17, Tryd.ntmps17
          go_wp2
          go_ret
          exact ⟨rfl, rfl⟩
      · have a0 : at' < 0 := by omega
        clear h0
        show Calls _ _ _ _ _
        go_enter Tryd.func17, Tryd.ntmps17
        go_wp2
        go_ret
        exact ⟨rfl, rfl⟩
  clear ha h0
  go_enter Tryd.func12, Tryd.ntmps12
  go_wp2_with fail
  refine KO.out.mono ?_
  rintro e w1 ⟨rfl, rfl⟩
  go_wp2
  go_ret2
  exact ⟨rfl, rfl⟩
/-- Set of what may be set: the bytes behind it. -/
theorem ap_set (h : Ap w W B A D P L M n first count c u lf k las f N g) (hc : c ≤ 500000) (at' : Nat) (h0 : at' ≤ 4611686018427387904) (sa : Option Addr) (ss : List ByteArray) (sc : Nat) (hss : ss.length ≤ 1000) (hsc : ss.length ≤ sc) (hsa : StrsAt W sa ss) (hsz : ∀ s ∈ ss, s.size ≤ 140737488351232) (h1 : (joined ss).length ≤ 64 * count) (h2 : (joined ss).length ≤ 2000) :
    Calls Tryd.prog 11 #[.pointer (some ⟨A, 0, none⟩), .int .i64 (at' : Int), .slice sa ss.length sc] W fun e w' => e = .returned (.int .i64 0) ∧ ∃ (u' : Int) (k' : Nat) (f' : Int → Option (List UInt8)),
      DevAt w' D P L M n k' false u' false lf las f' ∧ Fr3 P L M W w' ∧ okf n f' ∧ (0 ≤ u' ∧ u' ≤ ((c + 2000 : Nat) : Int)) ∧ k' ≤ c + 2000 ∧ BytesOf (stN (64 * count) N at' (joined ss)) las f' first count ∧ (∀ j, j < n → (j < first ∨ first + count ≤ j) → secAt las f' j = blank64) := by
  have hu := h.u
  have hk := h.k
  refine (set_yes h.d h.a h.na h.fo ⟨h.nn.1, by have := h.nn.2; omega⟩ ⟨hu.1, by omega⟩ (by omega) at' h0 sa ss sc hss hsc hsa hsz h1 (by omega)).mono ?_
  rintro e w' ⟨rfl, m, hm, hd, hf, ho⟩
  refine ⟨rfl, _, _, _, hd.out, hf.out, ho.out, ⟨by omega, by omega⟩, by omega, setF_is h.a.c.1 _ _ _ _ _ (Nat.le_refl _) h.by', fun j hj hout => ?_⟩
  have := h.out j hj hout
  unfold secAt at this ⊢
  rw [setF_out h.a.c.1 j hout]; exact this
/-- The device was written; the bytes beside it are what the area has now. -/
theorem Ap.dev {W' : World} {c' : Nat} {u' : Int} {k' : Nat} {las' : List (List UInt8)} {f' : Int → Option (List UInt8)} (h : Ap w W B A D P L M n first count c u lf k las f N g)
    (hd : DevAt W' D P L M n k' false u' false lf las' f') (hf : Fr3 P L M W W') (ho : okf n f') (hu : 0 ≤ u' ∧ u' ≤ (c' : Int)) (hk : k' ≤ c') (hB : BytesOf N las' f' first count) (hout : ∀ j, j < n → (j < first ∨ first + count ≤ j) → secAt las' f' j = blank64) :
    Ap w W' B A D P L M n first count c' u' lf k' las' f' N g := by
  obtain ⟨p1, p2, p3⟩ := h.lo
  obtain ⟨a1, d1, p4, l4, m4⟩ := h.hi
  exact { h with d := hd, a := h.a.fr hf h.na.1 h.na.2.1 h.na.2.2, u := hu, k := hk, fo := ho, by' := hB, out := hout, bw := h.bw.trans (hf.below h.bw.size p1 p2 p3), sz := Nat.le_trans h.sz hf.size, row := h.row.fr hf p4 l4 m4 }
/-- Set, the bytes beside the area already as they are to be. -/
theorem ap_set2 {N2 : List UInt8} (h : Ap w W B A D P L M n first count c u lf k las f N g) (hc : c ≤ 500000) {W2 : World} (hb2 : Below B W W2) (hr2 : RowB W2 B (.slice (some ⟨g, 0, none⟩) N2.length N2.length) N2) (at' : Nat) (h0 : at' ≤ 4611686018427387904) (sa : Option Addr) (ss : List ByteArray) (sc : Nat) (hss : ss.length ≤ 1000) (hsc : ss.length ≤ sc) (hsa : StrsAt W2 sa ss) (hsz : ∀ s ∈ ss, s.size ≤ 140737488351232) (h1 : (joined ss).length ≤ 64 * count) (h2 : (joined ss).length ≤ 2000) (hN : N2 = stN (64 * count) N at' (joined ss)) :
    Calls Tryd.prog 11 #[.pointer (some ⟨A, 0, none⟩), .int .i64 (at' : Int), .slice sa ss.length sc] W2 fun e w' => e = .returned (.int .i64 0) ∧ ∃ (u' : Int) (k' : Nat) (f' : Int → Option (List UInt8)), Hid (Ap w w' B A D P L M n first count (c + 2000) u' lf k' las f' N2 g) := by
  obtain ⟨a1, d1, p4, l4, m4⟩ := h.hi
  obtain ⟨p1, p2, p3⟩ := h.lo
  have hu := h.u
  have hk := h.k
  have hd2 := h.d.blocks (hb2.block _ d1) (hb2.block _ p4) (hb2.block _ l4) (hb2.block _ m4)
  have ha2 := h.a.blocks (hb2.block _ a1)
  have hbw2 : Below w.heap.size w W2 := h.bw.trans (hb2.mono h.b.1)
  refine (set_yes hd2 ha2 h.na h.fo ⟨h.nn.1, by have := h.nn.2; omega⟩ ⟨hu.1, by omega⟩ (by omega) at' h0 sa ss sc hss hsc hsa hsz h1 (by omega)).mono ?_
  rintro e w' ⟨rfl, m, hm, hd, hf, ho⟩
  refine ⟨rfl, _, _, _, { h with d := hd.out, a := ha2.fr hf.out h.na.1 h.na.2.1 h.na.2.2, u := ⟨?_, ?_⟩, k := ?_, fo := ho.out, by' := ?_, out := fun j hj hout => ?_, bw := hbw2.trans (hf.out.below hbw2.size p1 p2 p3), sz := Nat.le_trans h.sz (Nat.le_trans hb2.size hf.out.size), row := hr2.fr hf.out p4 l4 m4 }⟩
  · omega
  · omega
  · omega
  · rw [hN]; exact setF_is h.a.c.1 _ _ _ _ _ (Nat.le_refl _) h.by'
  · have := h.out j hj hout
    unfold secAt at this ⊢
    rw [setF_out h.a.c.1 j hout]; exact this
theorem BytesOf.congr {las2 : List (List UInt8)} {f2 : Int → Option (List UInt8)} (h : BytesOf N las f first count) (e : ∀ q, q < count → secAt las2 f2 (first + q) = secAt las f (first + q)) : BytesOf N las2 f2 first count :=
  ⟨h.len, fun q hq => by rw [h.at' q hq]; unfold byteAt; rw [e _ (by omega)], fun q hq => by rw [e q hq]; exact h.s64 q hq⟩
theorem ap_sync (h : Ap w W B A D P L M n first count c u lf k las f N g) (hc : c ≤ 500000) :
    Calls Tryd.prog 13 #[.pointer (some ⟨D, 0, none⟩)] W fun e w' => e = .returned (.int .i64 0) ∧ ∃ (las2 : List (List UInt8)), Hid (Ap w w' B A D P L M n first count (c + 1) (u + 1) lf k las2 (fun _ => none) N g) := by
  have hu := h.u
  have hk := h.k
  refine (sync_any h.d ⟨hu.1, by omega⟩ h.fo).mono ?_
  rintro e w' ⟨rfl, las2, hd, hl, hf⟩
  have e2 : ∀ j : Nat, j < n → secAt las2 (fun _ => none) j = secAt las f j := fun j hj => hl j hj
  exact ⟨rfl, las2, h.dev hd hf (fun _ _ h => by cases h) ⟨by omega, by omega⟩ (by omega) (h.by'.congr fun q hq => e2 _ (by have := h.nn.1; omega)) (fun j hj ho => (e2 j hj).trans (h.out j hj ho))⟩
theorem ap_read (h : Ap w W B A D P L M n first count c u lf k las f N g) (j : Nat) (hj : j < n) :
    Calls Tryd.prog 14 #[.pointer (some ⟨D, 0, none⟩), .int .i64 (j : Int)] W fun e w' => e = .returned (.tuple #[.string (txt (secAt las f j)), .int .i64 0]) ∧ Hid (Ap w w' B A D P L M n first count c u lf k las f N g) :=
  (read_any h.d j hj (by have := h.nn.2; omega) (fun l hl => (h.fo _ l hl).2.2)).mono fun _ _ hh => ⟨hh.1, h.below hh.2⟩
end
end Go.Proofs.YtckhdknehdjhoaaDoor
