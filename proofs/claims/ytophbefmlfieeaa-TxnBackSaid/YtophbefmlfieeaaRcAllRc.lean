/-
  THE CONTRACTS OF record.all over records; Right.
-/
import Derived.Test.YtophbefmlfieeaaRcRight
namespace Go.Proofs.Ytophbefmlfieeaa
open Go.RowKit

/-- A record. -/
structure Rc where
  k : Int
  g : Int
  t : Int
  p : Int
  pg : Int
  key : ByteArray
  hb : Bool
  sb : ByteArray
  ha : Bool
  sa : ByteArray
  u : Int
def noRc : Rc := ⟨0, 0, 0, 0, 0, ByteArray.empty, false, ByteArray.empty, false, ByteArray.empty, 0⟩
def Rc.v (r : Rc) : Value := .agg #[.int .i64 r.k, .int .i64 r.g, .int .i64 r.t, .int .i64 r.p, .int .i64 r.pg, .string r.key, .bool r.hb, .string r.sb, .bool r.ha, .string r.sa, .int .i64 r.u]
def Rc.ok (r : Rc) : Bool := rcOk r.k r.g r.t r.p r.pg r.key r.hb r.sb r.ha r.sa r.u
/-- Records in memory. -/
def RcsAt (w : World) (a : Option Addr) (l : List Rc) : Prop :=
  l = [] ∨ ∃ b off, a = some ⟨b, off, none⟩ ∧ ∀ i, i < l.length → w.cell? ⟨b, off + i * 11, none⟩ = some (.int .i64 (l.getD i noRc).k) ∧ w.cell? ⟨b, off + i * 11 + 1, none⟩ = some (.int .i64 (l.getD i noRc).g) ∧ w.cell? ⟨b, off + i * 11 + 2, none⟩ = some (.int .i64 (l.getD i noRc).t) ∧ w.cell? ⟨b, off + i * 11 + 3, none⟩ = some (.int .i64 (l.getD i noRc).p) ∧ w.cell? ⟨b, off + i * 11 + 4, none⟩ = some (.int .i64 (l.getD i noRc).pg) ∧ w.cell? ⟨b, off + i * 11 + 5, none⟩ = some (.string (l.getD i noRc).key) ∧ w.cell? ⟨b, off + i * 11 + 6, none⟩ = some (.bool (l.getD i noRc).hb) ∧ w.cell? ⟨b, off + i * 11 + 7, none⟩ = some (.string (l.getD i noRc).sb) ∧ w.cell? ⟨b, off + i * 11 + 8, none⟩ = some (.bool (l.getD i noRc).ha) ∧ w.cell? ⟨b, off + i * 11 + 9, none⟩ = some (.string (l.getD i noRc).sa) ∧ w.cell? ⟨b, off + i * 11 + 10, none⟩ = some (.int .i64 (l.getD i noRc).u)
set_option maxHeartbeats 2000000 in
theorem allRcs_any (sa : Option Addr) (ss : List Rc) (cap : Nat) (w : World) (hn : ss.length ≤ 1000) (hsa : RcsAt w sa ss) :
    Calls Try.prog 58 #[.slice sa ss.length cap, .func (.func 59) #[] #[]] w fun e w' => e = .returned (.bool (ss.all Rc.ok)) ∧ Below w.heap.size w w' := by
  have HA := Lib.hid hsa; clear hsa
  have HK : ∀ (r : Rc) W, Calls Try.prog 59 #[.agg #[.int .i64 r.k, .int .i64 r.g, .int .i64 r.t, .int .i64 r.p, .int .i64 r.pg, .string r.key, .bool r.hb, .string r.sb, .bool r.ha, .string r.sa, .int .i64 r.u]] W fun e w' => e = .returned (.bool r.ok) ∧ Below W.heap.size W w' := fun r W => rightOne_any r.k r.g r.t r.p r.pg r.u r.key r.sb r.sa r.hb r.ha W
  have HK := Lib.hid HK
  go_enter Try.func58, Try.ntmps58
  go_wp2
  go_loopw [9] (fun i wr => ∃ k : Nat, k ≤ ss.length ∧ i = .int .i64 k ∧ (ss.take k).all Rc.ok = true ∧ Below w.heap.size w wr) (fun i _ => ss.length - (intOf i).toNat)
  case atStart => exact ⟨0, Nat.zero_le _, rfl, rfl, Below.refl _ _⟩
  case round =>
    obtain ⟨n, hk, rfl, hall, hbr⟩ := hrel
    by_cases hlt : n < ss.length
    · obtain ⟨b, off, rfl, hcc⟩ : ∃ b off, sa = some ⟨b, off, none⟩ ∧ ∀ i, i < ss.length → w.cell? ⟨b, off + i * 11, none⟩ = some (.int .i64 (ss.getD i noRc).k) ∧ w.cell? ⟨b, off + i * 11 + 1, none⟩ = some (.int .i64 (ss.getD i noRc).g) ∧ w.cell? ⟨b, off + i * 11 + 2, none⟩ = some (.int .i64 (ss.getD i noRc).t) ∧ w.cell? ⟨b, off + i * 11 + 3, none⟩ = some (.int .i64 (ss.getD i noRc).p) ∧ w.cell? ⟨b, off + i * 11 + 4, none⟩ = some (.int .i64 (ss.getD i noRc).pg) ∧ w.cell? ⟨b, off + i * 11 + 5, none⟩ = some (.string (ss.getD i noRc).key) ∧ w.cell? ⟨b, off + i * 11 + 6, none⟩ = some (.bool (ss.getD i noRc).hb) ∧ w.cell? ⟨b, off + i * 11 + 7, none⟩ = some (.string (ss.getD i noRc).sb) ∧ w.cell? ⟨b, off + i * 11 + 8, none⟩ = some (.bool (ss.getD i noRc).ha) ∧ w.cell? ⟨b, off + i * 11 + 9, none⟩ = some (.string (ss.getD i noRc).sa) ∧ w.cell? ⟨b, off + i * 11 + 10, none⟩ = some (.int .i64 (ss.getD i noRc).u) := by
        rcases HA.out with h | h
        · rw [h] at hlt; simp at hlt
        · exact h
      obtain ⟨c0, c1, c2, c3, c4, c5, c6, c7, c8, c9, c10⟩ := hcc n hlt
      replace c0 := keep_cell hbr c0
      replace c1 := keep_cell hbr c1
      replace c2 := keep_cell hbr c2
      replace c3 := keep_cell hbr c3
      replace c4 := keep_cell hbr c4
      replace c5 := keep_cell hbr c5
      replace c6 := keep_cell hbr c6
      replace c7 := keep_cell hbr c7
      replace c8 := keep_cell hbr c8
      replace c9 := keep_cell hbr c9
      replace c10 := keep_cell hbr c10
      clear hcc
      have hts := all_take_succ Rc.ok ss noRc n hlt
      rw [hall, Bool.true_and] at hts
      have K1 := HK.out (ss.getD n noRc)
      by_cases hf : Rc.ok (ss.getD n noRc) = true
      · rw [hf] at K1 hts
        have HN : Hid ((ss.take (n + 1)).all Rc.ok = true) := Lib.hid hts
        clear hts hf hall HA HK
        generalize ss.getD n noRc = s at K1 c0 c1 c2 c3 c4 c5 c6 c7 c8 c9 c10
        obtain ⟨k, g, t, p, pg, key, hb, sb, ha, sa, u⟩ := s
        replace c0 : wr.cell? ⟨b, off + n * 11, none⟩ = some (.int .i64 k) := c0
        replace c1 : wr.cell? ⟨b, off + n * 11 + 1, none⟩ = some (.int .i64 g) := c1
        replace c2 : wr.cell? ⟨b, off + n * 11 + 2, none⟩ = some (.int .i64 t) := c2
        replace c3 : wr.cell? ⟨b, off + n * 11 + 3, none⟩ = some (.int .i64 p) := c3
        replace c4 : wr.cell? ⟨b, off + n * 11 + 4, none⟩ = some (.int .i64 pg) := c4
        replace c5 : wr.cell? ⟨b, off + n * 11 + 5, none⟩ = some (.string key) := c5
        replace c6 : wr.cell? ⟨b, off + n * 11 + 6, none⟩ = some (.bool hb) := c6
        replace c7 : wr.cell? ⟨b, off + n * 11 + 7, none⟩ = some (.string sb) := c7
        replace c8 : wr.cell? ⟨b, off + n * 11 + 8, none⟩ = some (.bool ha) := c8
        replace c9 : wr.cell? ⟨b, off + n * 11 + 9, none⟩ = some (.string sa) := c9
        replace c10 : wr.cell? ⟨b, off + n * 11 + 10, none⟩ = some (.int .i64 u) := c10
        replace K1 : ∀ W, Calls Try.prog 59 #[.agg #[.int .i64 k, .int .i64 g, .int .i64 t, .int .i64 p, .int .i64 pg, .string key, .bool hb, .string sb, .bool ha, .string sa, .int .i64 u]] W fun e w' => e = .returned (.bool true) ∧ Below W.heap.size W w' := K1
        go_wp2_with fail
        refine (K1 _).mono ?_
        rintro x w1 ⟨rfl, hb1⟩
        have hbw := bw_call hb1 (bw_alloc hbr)
        go_wp2
        go_roundw
        case rel => exact ⟨n + 1, by omega, by go_num, HN.out, hbw⟩
        case measure => simp [intOf]; omega
      · have hf : Rc.ok (ss.getD n noRc) = false := by simpa using hf
        have hno := all_false Rc.ok ss noRc n hlt hf
        have HN : Hid (ss.all Rc.ok = false) := Lib.hid hno
        rw [hf] at K1
        clear hts hf hno hall HA HK
        generalize ss.getD n noRc = s at K1 c0 c1 c2 c3 c4 c5 c6 c7 c8 c9 c10
        obtain ⟨k, g, t, p, pg, key, hb, sb, ha, sa, u⟩ := s
        replace c0 : wr.cell? ⟨b, off + n * 11, none⟩ = some (.int .i64 k) := c0
        replace c1 : wr.cell? ⟨b, off + n * 11 + 1, none⟩ = some (.int .i64 g) := c1
        replace c2 : wr.cell? ⟨b, off + n * 11 + 2, none⟩ = some (.int .i64 t) := c2
        replace c3 : wr.cell? ⟨b, off + n * 11 + 3, none⟩ = some (.int .i64 p) := c3
        replace c4 : wr.cell? ⟨b, off + n * 11 + 4, none⟩ = some (.int .i64 pg) := c4
        replace c5 : wr.cell? ⟨b, off + n * 11 + 5, none⟩ = some (.string key) := c5
        replace c6 : wr.cell? ⟨b, off + n * 11 + 6, none⟩ = some (.bool hb) := c6
        replace c7 : wr.cell? ⟨b, off + n * 11 + 7, none⟩ = some (.string sb) := c7
        replace c8 : wr.cell? ⟨b, off + n * 11 + 8, none⟩ = some (.bool ha) := c8
        replace c9 : wr.cell? ⟨b, off + n * 11 + 9, none⟩ = some (.string sa) := c9
        replace c10 : wr.cell? ⟨b, off + n * 11 + 10, none⟩ = some (.int .i64 u) := c10
        replace K1 : ∀ W, Calls Try.prog 59 #[.agg #[.int .i64 k, .int .i64 g, .int .i64 t, .int .i64 p, .int .i64 pg, .string key, .bool hb, .string sb, .bool ha, .string sa, .int .i64 u]] W fun e w' => e = .returned (.bool false) ∧ Below W.heap.size W w' := K1
        go_wp2_with fail
        refine (K1 _).mono ?_
        rintro x w1 ⟨rfl, hb1⟩
        have hbw := bw_call hb1 (bw_alloc hbr)
        go_wp2
        go_ret
        exact ⟨by rw [HN.out]; rfl, hbw⟩
    · have HN : Hid (ss.all Rc.ok = true) := Lib.hid (by rw [List.take_of_length_le (by omega)] at hall; exact hall)
      clear hall HA HK
      go_wp2
      go_ret
      exact ⟨by rw [HN.out]; rfl, hbr⟩
theorem right_any (sa : Option Addr) (ss : List Rc) (cap : Nat) (w : World) (hn : ss.length ≤ 1000) (hsa : RcsAt w sa ss) :
    Calls Try.prog 47 #[.slice sa ss.length cap] w fun e w' => e = .returned (.bool (ss.all Rc.ok)) ∧ Below w.heap.size w w' := by
  go_enter Try.func47, Try.ntmps47
  go_wp2_with fail
  refine (allRcs_any sa ss cap _ hn hsa).mono ?_
  rintro x w1 ⟨rfl, hb1⟩
  go_wp2
  go_ret
  exact ⟨rfl, hb1⟩
end Go.Proofs.Ytophbefmlfieeaa
