/-
  ACTS AS AN ARGUMENT; great, awake of law 09.
-/
import Derived.Test.YtcdkloohdafbpaaCkMore
namespace Go.Proofs.Ytcdkloohdafbpaa
open Go.RowKit
/-- An act, as it came in. -/
structure Ac where
  k : Int
  s : Int
  p : Int
  t : Int
  n : Int
  ma : Option Addr
  ml : List Int
  mc : Nat
/-- An act by value: as cells. -/
def Ac.cells (x : Ac) : Array Value := #[.int .i64 x.k, .int .i64 x.s, .int .i64 x.p, .int .i64 x.t, .int .i64 x.n, .slice x.ma x.ml.length x.mc]
def noAc : Ac := ⟨0, 0, 0, 0, 0, none, [], 0⟩
structure AcOk (w : World) (x : Ac) : Prop where
  k : (Lit.int .i64 x.k).wf = true
  s : (Lit.int .i64 x.s).wf = true
  p : (Lit.int .i64 x.p).wf = true
  t : (Lit.int .i64 x.t).wf = true
  n : (Lit.int .i64 x.n).wf = true
  z : Ints64 x.ml
  l : x.ml.length ≤ maxLen
  c : x.ml.length ≤ x.mc
  a : IntsAt w x.ma x.ml
structure AcCells (w : World) (b off : Nat) (x : Ac) : Prop where
  k : w.cell? ⟨b, off, none⟩ = some (.int .i64 x.k)
  s : w.cell? ⟨b, off + 1, none⟩ = some (.int .i64 x.s)
  p : w.cell? ⟨b, off + 2, none⟩ = some (.int .i64 x.p)
  t : w.cell? ⟨b, off + 3, none⟩ = some (.int .i64 x.t)
  n : w.cell? ⟨b, off + 4, none⟩ = some (.int .i64 x.n)
  m : w.cell? ⟨b, off + 5, none⟩ = some (.slice x.ma x.ml.length x.mc)
def ActsAt (w : World) (a : Option Addr) (L : List Ac) : Prop :=
  (∀ x ∈ L, AcOk w x) ∧ (L = [] ∨ ∃ b off, a = some ⟨b, off, none⟩ ∧ ∀ i, i < L.length → AcCells w b (off + i * 6) (L.getD i noAc))
theorem AcOk.below {w w' : World} {x : Ac} (h : AcOk w x) (hb : Below w.heap.size w w') : AcOk w' x := { h with a := h.a.below hb }
theorem AcCells.below {w w' : World} {b off : Nat} {x : Ac} (h : AcCells w b off x) (hb : Below w.heap.size w w') : AcCells w' b off x :=
  have key : ∀ {p : Addr} {v : Value}, w.cell? p = some v → w'.cell? p = some v := fun hc => (hb.cell (block_lt' hc)).trans hc
  ⟨key h.k, key h.s, key h.p, key h.t, key h.n, key h.m⟩
theorem ActsAt.below {w w' : World} {a : Option Addr} {L : List Ac} (h : ActsAt w a L) (hb : Below w.heap.size w w') : ActsAt w' a L := by
  refine ⟨fun x hx => (h.1 x hx).below hb, ?_⟩
  rcases h.2 with h2 | ⟨b, off, e, h2⟩
  · exact .inl h2
  · exact .inr ⟨b, off, e, fun i hi => (h2 i hi).below hb⟩
theorem mem_getD {L : List Ac} {k : Nat} (hk : k < L.length) : L.getD k noAc ∈ L := by
  rw [List.getD_eq_getElem?_getD, List.getElem?_eq_getElem hk]; exact List.getElem_mem _
theorem ActsAt.at {w : World} {a : Option Addr} {L : List Ac} (h : ActsAt w a L) {k : Nat} (hk : k < L.length) : ∃ b off, a = some ⟨b, off, none⟩ ∧ AcCells w b (off + k * 6) (L.getD k noAc) ∧ AcOk w (L.getD k noAc) := by
  rcases h.2 with h2 | ⟨b, off, e, h2⟩
  · subst h2; simp at hk
  · exact ⟨b, off, e, h2 k hk, h.1 _ (mem_getD hk)⟩
theorem take_oneA (l : List Ac) (k : Nat) (h : k < l.length) : l.take (k + 1) = l.take k ++ [l.getD k noAc] := by
  rw [List.take_succ_eq_append_getElem h]; simp [List.getD_eq_getElem?_getD, h]
def greatB (L : List Ac) : Bool := decide (60 < L.length) || L.any fun x => decide (10 < x.ml.length)
theorem greatB_no {L : List Ac} (h : greatB L = false) : L.length ≤ 60 ∧ ∀ x ∈ L, x.ml.length ≤ 10 := by
  unfold greatB at h
  rw [Bool.or_eq_false_iff] at h
  refine ⟨by have := h.1; simp at this; omega, fun x hx => ?_⟩
  have := List.any_eq_false.1 h.2 x hx
  simp at this; omega
set_option maxHeartbeats 1000000 in
theorem great_any (a : Option Addr) (L : List Ac) (cap : Nat) (w : World) (hn : L.length ≤ maxLen) (ha : ActsAt w a L) :
    Calls Try.prog 7 #[.slice a L.length cap] w fun e w' => e = .returned (.bool (greatB L)) ∧ w = w' := by
  have HG : Hid (greatB L = (decide (60 < L.length) || L.any fun x => decide (10 < x.ml.length))) := rfl
  unfold maxLen at hn
  have HA := Lib.hid ha; clear ha
  by_cases h60 : 60 < L.length
  · have HT : Hid (greatB L = true) := by rw [Hid, HG.out, decide_eq_true h60]; rfl
    have h60 : (60 : Int) < L.length := by omega
    go_enter Try.func7, Try.ntmps7
    go_wp2
    go_ret
    exact ⟨ret_bool HT.out.symm, rfl⟩
  · have HF : Hid (greatB L = L.any fun x => decide (10 < x.ml.length)) := by rw [Hid, HG.out, decide_eq_false h60]; rfl
    have h60 : (L.length : Int) ≤ 60 := by omega
    go_enter Try.func7, Try.ntmps7
    go_wp2
    go_loop [3] (fun i => ∃ k : Nat, k ≤ L.length ∧ i = .int .i64 k ∧ Hid (∀ m, m < k → (L.getD m noAc).ml.length ≤ 10)) (fun i => L.length - (intOf i).toNat)
    case atStart => exact ⟨0, Nat.zero_le _, rfl, fun m hm => by omega⟩
    case round =>
      obtain ⟨k, hk, rfl, hso⟩ := hrel
      by_cases hlt : k < L.length
      · obtain ⟨b, off, rfl, hc, hok⟩ := HA.out.at hlt
        have hm := hc.m
        have hl := hok.l
        unfold maxLen at hl
        have HY : Hid ((L.getD k noAc).ml.length ≤ 10 → ∀ m, m < k + 1 → (L.getD m noAc).ml.length ≤ 10) := fun hz m hm => by
          rcases Nat.lt_or_ge m k with h' | h'
          · exact hso.out m h'
          · have : m = k := by omega
            rw [this]; exact hz
        have HN : Hid (10 < (L.getD k noAc).ml.length → greatB L = true) := fun hz => by
          rw [HF.out, List.any_eq_true]
          exact ⟨_, mem_getD hlt, by simpa using hz⟩
        clear hc hok
        generalize (L.getD k noAc).ml.length = z at hm hl HY HN
        generalize (L.getD k noAc).ma = ma at hm
        generalize (L.getD k noAc).mc = mc at hm
        by_cases h10 : 10 < z
        · have HT := Lib.hid (HN.out h10)
          have h10 : (10 : Int) < z := by omega
          go_wp2
          go_ret
          exact ⟨ret_bool HT.out.symm, rfl⟩
        · have HT := Lib.hid (HY.out (by omega))
          have h10 : (z : Int) ≤ 10 := by omega
          go_wp2
          go_round
          case rel => exact ⟨k + 1, by omega, by go_num, HT⟩
          case measure => simp [intOf]; omega
      · have HT : Hid (greatB L = false) := by
          rw [Hid, HF.out, List.any_eq_false]
          intro x hx
          obtain ⟨m, hm, rfl⟩ := List.getElem_of_mem hx
          have := hso.out m (by omega)
          rw [List.getD_eq_getElem?_getD, List.getElem?_eq_getElem hm] at this
          simp only [Option.getD_some] at this
          simp; omega
        go_wp2
        go_ret
        exact ⟨ret_bool HT.out.symm, rfl⟩
theorem two_pos {a b : Int} (h : a = b) (e : Int) : (Ending.returned (.tuple #[.int .i64 a, .int .i64 e])) = .returned (.tuple #[.int .i64 b, .int .i64 e]) := by rw [h]
set_option maxHeartbeats 2000000 in
theorem awake_any (W : World) : Calls Try.prog 8 #[] W fun e w' => e = .returned (.bool true) ∧ Below W.heap.size W w' := by
  have KN := Lib.hid (new_yes 2 W (by omega) (by omega))
  go_enter Try.func8, Try.ntmps8
  go_wp2_with fail
  refine KN.out.mono ?_
  rintro e w1 ⟨C, S, P, T, rfl, h, hb, bC, bS, bP, bT⟩
  have cl := Lib.hid h; have HB := Lib.hid hb; clear h hb KN
  go_wp2_with fail
  refine (tick_yes cl.out 0 5 1 (by decide) (by decide) (by decide) 1 (by decide) ⟨by decide, by decide⟩ (by decide)).mono ?_
  rintro e w2 ⟨rfl, h, hf⟩
  have cl2 := Lib.hid h; have fr2 := Lib.hid hf; clear h hf cl
  go_wp2_with fail
  refine (tick_yes cl2.out 1 5 2 (by decide) (by decide) (by decide) 2 (by decide) ⟨by decide, by decide⟩ (by decide)).mono ?_
  rintro e w3 ⟨rfl, h, hf⟩
  have cl3 := Lib.hid h; have fr3 := Lib.hid (fr2.out.trans hf); clear h hf cl2 fr2
  go_wp2_with fail
  refine (tick_yes cl3.out 0 6 3 (by decide) (by decide) (by decide) 2 (by decide) ⟨by decide, by decide⟩ (by decide)).mono ?_
  rintro e w4 ⟨rfl, h, hf⟩
  have cl4 := Lib.hid h; have fr4 := Lib.hid (fr3.out.trans hf); clear h hf cl3 fr3
  have KT := Lib.hid (top_any cl4.out)
  rw [show max (max (max (0 : Int) 1) 2) 2 = 2 by decide] at KT
  have HB2 := Lib.hid (HB.out.trans (fr4.out.below HB.out.size bC bS bP bT))
  clear cl4 fr4 HB
  go_wp2_with fail
  refine KT.out.mono ?_
  rintro e w5 ⟨rfl, rfl⟩
  go_wp2
  go_ret
  exact ⟨rfl, HB2.out⟩
end Go.Proofs.Ytcdkloohdafbpaa
