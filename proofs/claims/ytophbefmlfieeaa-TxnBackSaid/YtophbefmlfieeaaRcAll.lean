/-
  THE CONTRACTS OF record.all over texts and values; Key, Value.
-/
import Derived.Test.YtophbefmlfieeaaRcSmall
namespace Go.Proofs.Ytophbefmlfieeaa
open Go.RowKit

theorem some_below {W w' : World} {B : Nat} (h : Below B W w') {p : Addr} {v : Value} (hp : p.block < B) (hc : W.cell? p = some v) : w'.cell? p = some v := (h.cell hp).trans hc
theorem block_lt {w : World} {p : Addr} {v : Value} (h : w.cell? p = some v) : p.block < w.heap.size := by
  rcases Nat.lt_or_ge p.block w.heap.size with h1 | h1
  · exact h1
  · simp [World.cell?, Array.getElem?_eq_none h1] at h
theorem bw_alloc {w X : World} {o : Obj} (h : Below w.heap.size w X) : Below w.heap.size w (X.alloc o) := h.alloc h.size o
theorem bw_drew {w X : World} (h : Below w.heap.size w X) : Below w.heap.size w X.drew := h.drew
theorem bw_call {w X Y : World} (hb : Below X.heap.size X Y) (h : Below w.heap.size w X) : Below w.heap.size w Y := h.trans (hb.mono h.size)
theorem keep_cell {w w' : World} {p : Addr} {v : Value} (h : Below w.heap.size w w') (hc : w.cell? p = some v) : w'.cell? p = some v := some_below h (block_lt hc) hc

def kyOk (s : ByteArray) : Bool := decide ((1 : Int) ≤ (s.size : Int)) && decide ((s.size : Int) ≤ 8)
def KeysAt (w : World) (a : Option Addr) (ss : List ByteArray) : Prop :=
  ss = [] ∨ ∃ b off, a = some ⟨b, off, none⟩ ∧ ∀ i, i < ss.length → w.cell? ⟨b, off + i, none⟩ = some (.string (ss.getD i ByteArray.empty))
theorem all_take_succ {α : Type} (f : α → Bool) (l : List α) (z : α) (k : Nat) (h : k < l.length) : (l.take (k + 1)).all f = ((l.take k).all f && f (l.getD k z)) := by
  rw [List.take_succ_eq_append_getElem h, List.all_append, List.getD_eq_getElem?_getD, List.getElem?_eq_getElem h]; simp only [List.all_cons, List.all_nil, Bool.and_true, Option.getD_some]
theorem all_false {α : Type} (f : α → Bool) (l : List α) (z : α) (k : Nat) (h : k < l.length) (hf : f (l.getD k z) = false) : l.all f = false := by
  rw [List.all_eq_false]
  exact ⟨l[k], List.getElem_mem h, by rw [List.getD_eq_getElem?_getD, List.getElem?_eq_getElem h] at hf; simpa using hf⟩

theorem allKeys_any (sa : Option Addr) (ss : List ByteArray) (cap : Nat) (w : World) (hn : ss.length ≤ 1000) (hsa : KeysAt w sa ss) :
    Calls Try.prog 89 #[.slice sa ss.length cap, .func (.func 90) #[] #[]] w fun e w' => e = .returned (.bool (ss.all kyOk)) ∧ Below w.heap.size w w' := by
  have HA := Lib.hid hsa; clear hsa
  have HK : ∀ s W, Calls Try.prog 90 #[.string s] W fun e w' => e = .returned (.bool (kyOk s)) ∧ W = w' := fun s W => keyOne_any s W
  have HK := Lib.hid HK
  go_enter Try.func89, Try.ntmps89
  go_wp2
  go_loopw [9] (fun i wr => ∃ k : Nat, k ≤ ss.length ∧ i = .int .i64 k ∧ (ss.take k).all kyOk = true ∧ Below w.heap.size w wr) (fun i _ => ss.length - (intOf i).toNat)
  case atStart => exact ⟨0, Nat.zero_le _, rfl, rfl, Below.refl _ _⟩
  case round =>
    obtain ⟨k, hk, rfl, hall, hbr⟩ := hrel
    by_cases hlt : k < ss.length
    · obtain ⟨b, off, rfl, hcc⟩ : ∃ b off, sa = some ⟨b, off, none⟩ ∧ ∀ i, i < ss.length → w.cell? ⟨b, off + i, none⟩ = some (.string (ss.getD i ByteArray.empty)) := by
        rcases HA.out with h | h
        · rw [h] at hlt; simp at hlt
        · exact h
      have hck := keep_cell hbr (hcc k hlt)
      clear hcc
      have hts := all_take_succ kyOk ss ByteArray.empty k hlt
      rw [hall, Bool.true_and] at hts
      have K1 := HK.out (ss.getD k ByteArray.empty)
      by_cases hf : kyOk (ss.getD k ByteArray.empty) = true
      · rw [hf] at K1 hts
        have HN : Hid ((ss.take (k + 1)).all kyOk = true) := Lib.hid hts
        clear hts hf hall HA HK
        generalize ss.getD k ByteArray.empty = s at K1 hck
        go_wp2_with fail
        refine (K1 _).mono ?_
        rintro x w1 ⟨rfl, rfl⟩
        go_wp2
        go_roundw
        case rel => exact ⟨k + 1, by omega, by go_num, HN.out, hbr⟩
        case measure => simp [intOf]; omega
      · have hf : kyOk (ss.getD k ByteArray.empty) = false := by simpa using hf
        have hno := all_false kyOk ss ByteArray.empty k hlt hf
        have HN : Hid (ss.all kyOk = false) := Lib.hid hno
        rw [hf] at K1
        clear hts hf hno hall HA HK
        generalize ss.getD k ByteArray.empty = s at K1 hck
        go_wp2_with fail
        refine (K1 _).mono ?_
        rintro x w1 ⟨rfl, rfl⟩
        go_wp2
        go_ret
        exact ⟨by rw [HN.out]; rfl, hbr⟩
    · have HN : Hid (ss.all kyOk = true) := Lib.hid (by rw [List.take_of_length_le (by omega)] at hall; exact hall)
      clear hall HA HK
      go_wp2
      go_ret
      exact ⟨by rw [HN.out]; rfl, hbr⟩
theorem key_any (sa : Option Addr) (ss : List ByteArray) (cap : Nat) (w : World) (hn : ss.length ≤ 1000) (hsa : KeysAt w sa ss) :
    Calls Try.prog 74 #[.slice sa ss.length cap] w fun e w' => e = .returned (.bool (ss.all kyOk)) ∧ Below w.heap.size w w' := by
  go_enter Try.func74, Try.ntmps74
  go_wp2_with fail
  refine (allKeys_any sa ss cap _ hn hsa).mono ?_
  rintro x w1 ⟨rfl, hb1⟩
  go_wp2
  go_ret
  exact ⟨rfl, hb1⟩

def flatV (l : List (Bool × ByteArray)) : List Value := l.flatMap fun v => [.bool v.1, .string v.2]
/-- Values in memory. -/
def ValsAt (w : World) (a : Option Addr) (l : List (Bool × ByteArray)) : Prop :=
  l = [] ∨ ∃ b off, a = some ⟨b, off, none⟩ ∧ ∀ i, i < l.length → w.cell? ⟨b, off + i * 2, none⟩ = some (.bool (l.getD i (false, ByteArray.empty)).1) ∧ w.cell? ⟨b, off + i * 2 + 1, none⟩ = some (.string (l.getD i (false, ByteArray.empty)).2)
def vOk (v : Bool × ByteArray) : Bool := vlOk v.1 v.2
theorem allVals_any (sa : Option Addr) (ss : List (Bool × ByteArray)) (cap : Nat) (w : World) (hn : ss.length ≤ 1000) (hsa : ValsAt w sa ss) :
    Calls Try.prog 91 #[.slice sa ss.length cap, .func (.func 92) #[] #[]] w fun e w' => e = .returned (.bool (ss.all vOk)) ∧ Below w.heap.size w w' := by
  have HA := Lib.hid hsa; clear hsa
  have HK : ∀ (v : Bool × ByteArray) W, Calls Try.prog 92 #[.agg #[.bool v.1, .string v.2]] W fun e w' => e = .returned (.bool (vOk v)) ∧ Below W.heap.size W w' := fun v W => valOne_any v.1 v.2 W
  have HK := Lib.hid HK
  go_enter Try.func91, Try.ntmps91
  go_wp2
  go_loopw [9] (fun i wr => ∃ k : Nat, k ≤ ss.length ∧ i = .int .i64 k ∧ (ss.take k).all vOk = true ∧ Below w.heap.size w wr) (fun i _ => ss.length - (intOf i).toNat)
  case atStart => exact ⟨0, Nat.zero_le _, rfl, rfl, Below.refl _ _⟩
  case round =>
    obtain ⟨k, hk, rfl, hall, hbr⟩ := hrel
    by_cases hlt : k < ss.length
    · obtain ⟨b, off, rfl, hcc⟩ : ∃ b off, sa = some ⟨b, off, none⟩ ∧ ∀ i, i < ss.length → w.cell? ⟨b, off + i * 2, none⟩ = some (.bool (ss.getD i (false, ByteArray.empty)).1) ∧ w.cell? ⟨b, off + i * 2 + 1, none⟩ = some (.string (ss.getD i (false, ByteArray.empty)).2) := by
        rcases HA.out with h | h
        · rw [h] at hlt; simp at hlt
        · exact h
      have hck := keep_cell hbr (hcc k hlt).1
      have hcs := keep_cell hbr (hcc k hlt).2
      clear hcc
      have hts := all_take_succ vOk ss (false, ByteArray.empty) k hlt
      rw [hall, Bool.true_and] at hts
      have K1 := HK.out (ss.getD k (false, ByteArray.empty))
      by_cases hf : vOk (ss.getD k (false, ByteArray.empty)) = true
      · rw [hf] at K1 hts
        have HN : Hid ((ss.take (k + 1)).all vOk = true) := Lib.hid hts
        clear hts hf hall HA HK
        generalize ss.getD k (false, ByteArray.empty) = s at K1 hck hcs
        obtain ⟨sh, ss2⟩ := s
        replace hck : wr.cell? ⟨b, off + k * 2, none⟩ = some (.bool sh) := hck
        replace hcs : wr.cell? ⟨b, off + k * 2 + 1, none⟩ = some (.string ss2) := hcs
        replace K1 : ∀ W, Calls Try.prog 92 #[.agg #[.bool sh, .string ss2]] W fun e w' => e = .returned (.bool true) ∧ Below W.heap.size W w' := K1
        go_wp2_with fail
        refine (K1 _).mono ?_
        rintro x w1 ⟨rfl, hb1⟩
        have hbw := bw_call hb1 (bw_alloc hbr)
        go_wp2
        go_roundw
        case rel => exact ⟨k + 1, by omega, by go_num, HN.out, hbw⟩
        case measure => simp [intOf]; omega
      · have hf : vOk (ss.getD k (false, ByteArray.empty)) = false := by simpa using hf
        have hno := all_false vOk ss (false, ByteArray.empty) k hlt hf
        have HN : Hid (ss.all vOk = false) := Lib.hid hno
        rw [hf] at K1
        clear hts hf hno hall HA HK
        generalize ss.getD k (false, ByteArray.empty) = s at K1 hck hcs
        obtain ⟨sh, ss2⟩ := s
        replace hck : wr.cell? ⟨b, off + k * 2, none⟩ = some (.bool sh) := hck
        replace hcs : wr.cell? ⟨b, off + k * 2 + 1, none⟩ = some (.string ss2) := hcs
        replace K1 : ∀ W, Calls Try.prog 92 #[.agg #[.bool sh, .string ss2]] W fun e w' => e = .returned (.bool false) ∧ Below W.heap.size W w' := K1
        go_wp2_with fail
        refine (K1 _).mono ?_
        rintro x w1 ⟨rfl, hb1⟩
        have hbw := bw_call hb1 (bw_alloc hbr)
        go_wp2
        go_ret
        exact ⟨by rw [HN.out]; rfl, hbw⟩
    · have HN : Hid (ss.all vOk = true) := Lib.hid (by rw [List.take_of_length_le (by omega)] at hall; exact hall)
      clear hall HA HK
      go_wp2
      go_ret
      exact ⟨by rw [HN.out]; rfl, hbr⟩
theorem value_any (sa : Option Addr) (ss : List (Bool × ByteArray)) (cap : Nat) (w : World) (hn : ss.length ≤ 1000) (hsa : ValsAt w sa ss) :
    Calls Try.prog 75 #[.slice sa ss.length cap] w fun e w' => e = .returned (.bool (ss.all vOk)) ∧ Below w.heap.size w w' := by
  go_enter Try.func75, Try.ntmps75
  go_wp2_with fail
  refine (allVals_any sa ss cap _ hn hsa).mono ?_
  rintro x w1 ⟨rfl, hb1⟩
  go_wp2
  go_ret
  exact ⟨rfl, hb1⟩
end Go.Proofs.Ytophbefmlfieeaa
