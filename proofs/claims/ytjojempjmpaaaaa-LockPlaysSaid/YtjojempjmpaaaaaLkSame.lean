/-
  Same OF ONE NUMBER EACH; what a nil table answers.
-/
import Derived.Test.YtjojempjmpaaaaaLkAsk
namespace Go.Proofs.Ytjojempjmpaaaaa
open Go.RowKit
theorem below_drewN {B : Nat} {a w : World} (h : Below B a w) : ∀ n, Below B a (w.drewN n)
  | 0 => h
  | n + 1 => (below_drewN h n).drew
theorem ret_bool {a b : Bool} (h : a = b) : Ending.returned (.bool a) = .returned (.bool b) := by rw [h]
/-- A slice of ints that reads as these numbers. -/
def IntsAt (w : World) (a : Option Addr) (l : List Int) : Prop :=
  l = [] ∨ ∃ b off, a = some ⟨b, off, none⟩ ∧ ∀ i, i < l.length → w.cell? ⟨b, off + i, none⟩ = some (.int .i64 (l.getD i 0))
theorem IntsAt.cell {w : World} {a : Option Addr} {l : List Int} (h : IntsAt w a l) {k : Nat} (hk : k < l.length) : ∃ b off, a = some ⟨b, off, none⟩ ∧ w.cell? ⟨b, off + k, none⟩ = some (.int .i64 (l.getD k 0)) := by
  rcases h with rfl | ⟨b, off, e, h⟩
  · simp at hk
  · exact ⟨b, off, e, h k hk⟩
theorem take_one (l : List Int) (k : Nat) (h : k < l.length) : l.take (k + 1) = l.take k ++ [l.getD k 0] := by
  rw [List.take_succ_eq_append_getElem h]; simp [List.getD_eq_getElem?_getD, h]
set_option maxHeartbeats 400000 in
theorem same_any (a b : Option Addr) (l m : List Int) (ca cb : Nat) (w : World) (hl : l.length ≤ maxLen) (_hm : m.length ≤ maxLen) (ha : IntsAt w a l) (hb : IntsAt w b m) :
    Calls Try.prog 20 #[.slice a l.length ca, .slice b m.length cb] w fun e w' => e = .returned (.bool (l == m)) ∧ Below w.heap.size w w' := by
  unfold maxLen at hl _hm
  have HA := Lib.hid ha; clear ha
  have HB := Lib.hid hb; clear hb
  by_cases hlen : l.length = m.length
  · have hne : ((l.length : Int) != (m.length : Int)) = false := by rw [bne_eq_false_iff_eq]; omega
    have HL := Lib.hid hlen; clear hlen
    go_enter Try.func20, Try.ntmps20
    go_wp2
    go_loopw [5] (fun i wr => ∃ k : Nat, k ≤ l.length ∧ i = .int .i64 k ∧ Hid (l.take k = m.take k) ∧ ∃ q, wr = w.drewN q) (fun i _ => l.length - (intOf i).toNat)
    case atStart => exact ⟨0, Nat.zero_le _, rfl, rfl, 0, rfl⟩
    case round =>
      obtain ⟨k, hk, rfl, heq, q, rfl⟩ := hrel
      by_cases hlt : k < l.length
      · obtain ⟨b1, o1, rfl, c1⟩ := HA.out.cell hlt
        obtain ⟨b2, o2, rfl, c2⟩ := HB.out.cell (k := k) (by rw [← HL.out]; exact hlt)
        have hlt2 : (k : Int) < (m.length : Int) := by have := HL.out; omega
        have hlt1 : (k : Int) < (l.length : Int) := by omega
        have e1 := Lib.hid (take_one l k hlt)
        have e2 := Lib.hid (take_one m k (by rw [← HL.out]; exact hlt))
        obtain ⟨x, hx⟩ : ∃ x, x = l.getD k 0 := ⟨_, rfl⟩
        obtain ⟨y, hy⟩ : ∃ y, y = m.getD k 0 := ⟨_, rfl⟩
        rw [← hx] at c1 e1
        rw [← hy] at c2 e2
        have HX := Lib.hid hx; clear hx
        have HY := Lib.hid hy; clear hy
        have d1 : (w.drewN q).cell? ⟨b1, o1 + k, none⟩ = some (.int .i64 x) := c1
        have d2 : (w.drewN q).cell? ⟨b2, o2 + k, none⟩ = some (.int .i64 y) := c2
        by_cases hxy : x = y
        · have hb : (x != y) = false := by rw [bne_eq_false_iff_eq]; exact hxy
          have HXY := Lib.hid hxy; clear hxy
          go_wp2
          go_quiet (fail)
          go_wp2
          go_roundw
          case rel => exact ⟨k + 1, by omega, by go_num, by rw [Hid, e1.out, e2.out, heq.out, HXY.out], _, rfl⟩
          case measure => simp [intOf]; omega
        · have hb : (x != y) = true := by rw [bne_iff_ne]; exact hxy
          have HXY := Lib.hid hxy; clear hxy
          go_wp2
          go_quiet (fail)
          go_wp2
          go_ret
          exact ⟨ret_bool (by rw [eq_comm, beq_eq_false_iff_ne]; intro e; apply HXY.out; rw [HX.out, HY.out, e]), by first | exact below_drewN (Below.refl _ _) _ | exact below_drewN (below_drewN (Below.refl _ _) _) _⟩
      · have hlt1 : (l.length : Int) ≤ (k : Int) := by omega
        have hfull : l = m := by
          have := heq.out
          rw [List.take_of_length_le (by omega), List.take_of_length_le (by have := HL.out; omega)] at this
          exact this
        have HF := Lib.hid hfull; clear hfull
        go_wp2
        go_ret
        exact ⟨ret_bool (by rw [eq_comm, beq_iff_eq]; exact HF.out), below_drewN (Below.refl _ _) _⟩
  · have hne : ((l.length : Int) != (m.length : Int)) = true := by rw [bne_iff_ne]; omega
    have HL := Lib.hid hlen; clear hlen
    go_enter Try.func20, Try.ntmps20
    go_wp2
    go_ret
    exact ⟨ret_bool (by rw [eq_comm, beq_eq_false_iff_ne]; intro e; apply HL.out; rw [e]), Below.refl _ _⟩
theorem same_one (a b ca cb : Nat) (z : Int) (w : World) (ha : w.cell? ⟨a, 0, none⟩ = some (.int .i64 z)) (hb : w.cell? ⟨b, 0, none⟩ = some (.int .i64 z)) :
    Calls Try.prog 20 #[.slice (some ⟨a, 0, none⟩) 1 ca, .slice (some ⟨b, 0, none⟩) 1 cb] w fun e w' => e = .returned (.bool true) ∧ Below w.heap.size w w' := by
  have h := same_any (some ⟨a, 0, none⟩) (some ⟨b, 0, none⟩) [z] [z] ca cb w (show 1 ≤ maxLen by unfold maxLen; omega) (show 1 ≤ maxLen by unfold maxLen; omega) (.inr ⟨a, 0, rfl, fun i hi => by
    match i, hi with
    | 0, _ => exact ha⟩) (.inr ⟨b, 0, rfl, fun i hi => by
    match i, hi with
    | 0, _ => exact hb⟩)
  rw [show ([z] == [z]) = true by simp] at h
  exact h
theorem nAsk (o : Int) (k : ByteArray) (b : Bool) (W : World) : Calls Try.prog 12 #[.pointer none, .int .i64 o, .agg #[.string k, .bool b]] W fun e W' => e = .returned (.int .i64 1) ∧ Below W.heap.size W W' := by
  have KM := Lib.hid (fun W => made_nil W)
  have HB : Hid (Below W.heap.size W (W.alloc (.cells #[.string k, .bool b] 40))) := (Below.refl _ _).alloc (Nat.le_refl _) _
  go_enter Try.func12, Try.ntmps12
  go_wp2_with fail
  refine (KM.out _).mono ?_
  rintro e w1 ⟨rfl, rfl⟩
  go_wp2
  go_ret
  exact ⟨rfl, HB.out⟩
theorem nQuit (o : Int) (W : World) : Calls Try.prog 13 #[.pointer none, .int .i64 o] W fun e W' => e = .returned (.slice none 0 0) ∧ W = W' := by
  have KM := Lib.hid (fun W => made_nil W)
  go_enter Try.func13, Try.ntmps13
  go_wp2_with fail
  refine (KM.out _).mono ?_
  rintro e w1 ⟨rfl, rfl⟩
  go_wp2
  go_ret
  exact ⟨rfl, rfl⟩
theorem nFree (v : Value) (W : World) : Calls Try.prog 14 #[.pointer none, v] W fun e W' => e = .returned (.slice none 0 0) ∧ W = W' := by
  have KM := Lib.hid (fun W => made_nil W)
  go_enter Try.func14, Try.ntmps14
  go_wp2_with fail
  refine (KM.out _).mono ?_
  rintro e w1 ⟨rfl, rfl⟩
  go_wp2
  go_ret
  exact ⟨rfl, rfl⟩
theorem nHolds (o : Int) (W : World) : Calls Try.prog 16 #[.pointer none, .int .i64 o] W fun e W' => e = .returned (.slice none 0 0) ∧ W = W' := by
  have KM := Lib.hid (fun W => made_nil W)
  go_enter Try.func16, Try.ntmps16
  go_wp2_with fail
  refine (KM.out _).mono ?_
  rintro e w1 ⟨rfl, rfl⟩
  go_wp2
  go_ret
  exact ⟨rfl, rfl⟩
set_option maxRecDepth 100000 in
theorem nWaits (o : Int) (W : World) : Calls Try.prog 17 #[.pointer none, .int .i64 o] W fun e W' => e = .returned (.tuple #[.agg #[.string ⟨#[]⟩, .bool false], .bool false]) ∧ Below W.heap.size W W' := by
  have KM := Lib.hid (fun W => made_nil W)
  have HB : Hid (Below W.heap.size W (W.alloc (.cells #[.string ⟨#[]⟩, .bool false] 40))) := (Below.refl _ _).alloc (Nat.le_refl _) _
  have z0 : (W.alloc (.cells #[.string ⟨#[]⟩, .bool false] 40)).cell? ⟨W.heap.size, 0, none⟩ = some (.string ⟨#[]⟩) := new_cell rfl rfl
  have z1 : (W.alloc (.cells #[.string ⟨#[]⟩, .bool false] 40)).cell? ⟨W.heap.size, 1, none⟩ = some (.bool false) := new_cell rfl rfl
  go_enter Try.func17, Try.ntmps17
  go_wp2_with fail
  refine (KM.out _).mono ?_
  rintro e w1 ⟨rfl, rfl⟩
  go_wp2
  refine bodyPost_ret (v := .tuple #[.agg #[.string ⟨#[]⟩, .bool false], .bool false]) ?_ rfl ⟨rfl, HB.out⟩
  simp [results, Try.results17, go_sem, z0, z1]
theorem nLine (k : ByteArray) (W : World) : Calls Try.prog 19 #[.pointer none, .string k] W fun e W' => e = .returned (.slice none 0 0) ∧ W = W' := by
  have KM := Lib.hid (fun W => made_nil W)
  go_enter Try.func19, Try.ntmps19
  go_wp2_with fail
  refine (KM.out _).mono ?_
  rintro e w1 ⟨rfl, rfl⟩
  go_wp2
  go_ret
  exact ⟨rfl, rfl⟩
theorem nEdges (W : World) : Calls Try.prog 18 #[.pointer none] W fun e W' => e = .returned (.slice none 0 0) ∧ W = W' := by
  have KM := Lib.hid (fun W => made_nil W)
  go_enter Try.func18, Try.ntmps18
  go_wp2_with fail
  refine (KM.out _).mono ?_
  rintro e w1 ⟨rfl, rfl⟩
  go_wp2
  go_ret
  exact ⟨rfl, rfl⟩
end Go.Proofs.Ytjojempjmpaaaaa
