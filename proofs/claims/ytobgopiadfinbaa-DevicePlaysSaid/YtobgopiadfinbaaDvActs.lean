/-
  ACTS AS AN ARGUMENT; join, great OF law 05.
-/
import Derived.Test.YtobgopiadfinbaaDvAwake
namespace Go.Proofs.Ytobgopiadfinbaa
open Go.RowKit
theorem ret_str {a b : ByteArray} (h : a = b) : Ending.returned (.string a) = .returned (.string b) := by rw [h]
theorem ret_bool {a b : Bool} (h : a = b) : Ending.returned (.bool a) = .returned (.bool b) := by rw [h]
/-- A slice of ints that reads as these numbers. -/
def IntsAt (w : World) (a : Option Addr) (l : List Int) : Prop :=
  l = [] ∨ ∃ b off, a = some ⟨b, off, none⟩ ∧ ∀ i, i < l.length → w.cell? ⟨b, off + i, none⟩ = some (.int .i64 (l.getD i 0))
theorem IntsAt.below {w w' : World} {a : Option Addr} {l : List Int} (h : IntsAt w a l) (hb : Below w.heap.size w w') : IntsAt w' a l := by
  rcases h with h | ⟨b, off, e, h⟩
  · exact .inl h
  · exact .inr ⟨b, off, e, fun i hi => keep_cell hb (h i hi)⟩
theorem StrsAt.below {w w' : World} {a : Option Addr} {ss : List ByteArray} (h : StrsAt w a ss) (hb : Below w.heap.size w w') : StrsAt w' a ss := by
  rcases h with h | ⟨b, off, e, h⟩
  · exact .inl h
  · exact .inr ⟨b, off, e, fun i hi => keep_cell hb (h i hi)⟩
/-- An act, as it came in. -/
structure Da where
  k : Int
  n : Int
  o : Bool
  da : Option Addr
  dl : List ByteArray
  dc : Nat
  ka : Option Addr
  kl : List Int
  kc : Nat
def Da.cells (x : Da) : Array Value := #[.int .i64 x.k, .int .i64 x.n, .bool x.o, .slice x.da x.dl.length x.dc, .slice x.ka x.kl.length x.kc]
def noDa : Da := ⟨0, 0, false, none, [], 0, none, [], 0⟩
structure DaOk (w : World) (x : Da) : Prop where
  n : (Lit.int .i64 x.n).wf = true
  ds : StrsAt w x.da x.dl
  dz : ∀ s ∈ x.dl, s.size ≤ 140737488351232
  dn : x.dl.length ≤ maxLen
  ks : IntsAt w x.ka x.kl
  kz : ∀ z ∈ x.kl, (Lit.int .i64 z).wf = true
  kn : x.kl.length ≤ maxLen
theorem DaOk.below {w w' : World} {x : Da} (h : DaOk w x) (hb : Below w.heap.size w w') : DaOk w' x := { h with ds := h.ds.below hb, ks := h.ks.below hb }
structure DaCells (w : World) (b off : Nat) (x : Da) : Prop where
  k : w.cell? ⟨b, off, none⟩ = some (.int .i64 x.k)
  n : w.cell? ⟨b, off + 1, none⟩ = some (.int .i64 x.n)
  o : w.cell? ⟨b, off + 2, none⟩ = some (.bool x.o)
  d : w.cell? ⟨b, off + 3, none⟩ = some (.slice x.da x.dl.length x.dc)
  m : w.cell? ⟨b, off + 4, none⟩ = some (.slice x.ka x.kl.length x.kc)
theorem DaCells.below {w w' : World} {b off : Nat} {x : Da} (h : DaCells w b off x) (hb : Below w.heap.size w w') : DaCells w' b off x :=
  ⟨keep_cell hb h.k, keep_cell hb h.n, keep_cell hb h.o, keep_cell hb h.d, keep_cell hb h.m⟩
def DasAt (w : World) (a : Option Addr) (L : List Da) : Prop :=
  (∀ x ∈ L, DaOk w x) ∧ (L = [] ∨ ∃ b off, a = some ⟨b, off, none⟩ ∧ ∀ i, i < L.length → DaCells w b (off + i * 5) (L.getD i noDa))
theorem DasAt.below {w w' : World} {a : Option Addr} {L : List Da} (h : DasAt w a L) (hb : Below w.heap.size w w') : DasAt w' a L := by
  refine ⟨fun x hx => (h.1 x hx).below hb, ?_⟩
  rcases h.2 with h2 | ⟨b, off, e, h2⟩
  · exact .inl h2
  · exact .inr ⟨b, off, e, fun i hi => (h2 i hi).below hb⟩
theorem mem_getD {L : List Da} {k : Nat} (hk : k < L.length) : L.getD k noDa ∈ L := by
  rw [List.getD_eq_getElem?_getD, List.getElem?_eq_getElem hk]; exact List.getElem_mem _
theorem DasAt.at {w : World} {a : Option Addr} {L : List Da} (h : DasAt w a L) {k : Nat} (hk : k < L.length) : ∃ b off, a = some ⟨b, off, none⟩ ∧ DaCells w b (off + k * 5) (L.getD k noDa) ∧ DaOk w (L.getD k noDa) := by
  rcases h.2 with h2 | ⟨b, off, e, h2⟩
  · subst h2; simp at hk
  · exact ⟨b, off, e, h2 k hk, h.1 _ (mem_getD hk)⟩
theorem txt_append (l : List UInt8) (s : ByteArray) : txt l ++ s = txt (l ++ s.data.toList) := by
  unfold txt
  apply ByteArray.ext
  simp [ByteArray.data_append]
theorem txt_size (l : List UInt8) : (txt l).size = l.length := by unfold txt; simp [ByteArray.size]
theorem joined_small : ∀ {ss : List ByteArray}, (∀ s ∈ ss, s.size ≤ 140737488351232) → (joined ss).length ≤ ss.length * 140737488351232
  | [], _ => Nat.le_refl _
  | s :: ss, h => by
    have h1 := h s List.mem_cons_self
    have h2 := joined_small (ss := ss) (fun y hy => h y (List.mem_cons_of_mem _ hy))
    unfold joined at h2 ⊢
    rw [List.flatMap_cons, List.length_append, ba_len, List.length_cons, Nat.succ_mul]; omega
set_option maxHeartbeats 1000000 in
theorem join_any (a : Option Addr) (ss : List ByteArray) (c : Nat) (w : World) (hn : ss.length ≤ 1000) (ha : StrsAt w a ss) (hz : ∀ s ∈ ss, s.size ≤ 140737488351232) :
    Calls Try.prog 12 #[.slice a ss.length c] w fun e w' => e = .returned (.string (txt (joined ss))) ∧ w = w' := by
  have HA := Lib.hid ha; clear ha
  have HZ := Lib.hid hz; clear hz
  have H0 : Hid (txt [] = ⟨#[]⟩) := rfl
  have hje : txt (joined ss) = txt (joined (ss.take ss.length)) := by rw [List.take_length]
  have HE := Lib.hid hje; clear hje
  go_enter Try.func12, Try.ntmps12
  go_wp2
  go_loop [3, 4] (fun v i => ∃ k : Nat, k ≤ ss.length ∧ i = .int .i64 k ∧ ∃ t, v = .string t ∧ Hid (t = txt (joined (ss.take k)))) (fun _ i => ss.length - (intOf i).toNat)
  case atStart => exact ⟨0, Nat.zero_le _, rfl, _, rfl, rfl⟩
  case round =>
    obtain ⟨k, hk, rfl, t, rfl, ht⟩ := hrel
    by_cases hlt : k < ss.length
    · obtain ⟨b, off, rfl, hc⟩ := HA.out.cell hlt
      have hs : (ss.getD k ByteArray.empty).size ≤ 140737488351232 := HZ.out _ (by rw [List.getD_eq_getElem?_getD, List.getElem?_eq_getElem hlt]; exact List.getElem_mem _)
      have ht1 : t.size ≤ 1000 * 140737488351232 := by
        rw [ht.out, txt_size]
        exact Nat.le_trans (joined_small (fun s hs => HZ.out s (List.mem_of_mem_take hs))) (by rw [List.length_take]; exact Nat.mul_le_mul_right _ (by omega))
      have HN : Hid (∀ u, u = t ++ ss.getD k ByteArray.empty → u = txt (joined (ss.take (k + 1)))) := fun u e => by rw [e, ht.out, joined_take ss k hlt, txt_append]
      generalize ss.getD k ByteArray.empty = s at hc hs HN
      have HN2 := Lib.hid (HN.out _ rfl)
      have hsum : ¬ 9223372036854775807 < t.size + s.size := by omega
      have hsum2 : t.size + s.size ≤ 9223372036854775807 := by omega
      clear ht HN
      go_wp2
      go_round
      case rel => exact ⟨k + 1, by omega, by go_num, _, rfl, HN2⟩
      case measure => simp [intOf]; omega
    · have hke : k = ss.length := by omega
      subst hke
      have HR : Hid (t = txt (joined ss)) := by rw [Hid, ht.out, HE.out]
      clear ht HE
      go_wp2
      go_ret
      exact ⟨ret_str HR.out, rfl⟩
def greatA (x : Da) : Bool := decide (6 < x.dl.length) || decide (200 < (joined x.dl).length) || decide (40 < x.kl.length)
def greatB (L : List Da) : Bool := decide (60 < L.length) || L.any greatA
theorem greatB_no {L : List Da} (h : greatB L = false) : L.length ≤ 60 ∧ ∀ x ∈ L, x.dl.length ≤ 6 ∧ (joined x.dl).length ≤ 200 ∧ x.kl.length ≤ 40 := by
  unfold greatB at h
  rw [Bool.or_eq_false_iff] at h
  refine ⟨by have := h.1; simp at this; omega, fun x hx => ?_⟩
  have := List.any_eq_false.1 h.2 x hx
  unfold greatA at this
  simp at this; omega
set_option maxHeartbeats 2000000 in
theorem great_any (a : Option Addr) (L : List Da) (cap : Nat) (w : World) (hn : L.length ≤ maxLen) (ha : DasAt w a L) :
    Calls Try.prog 4 #[.slice a L.length cap] w fun e w' => e = .returned (.bool (greatB L)) ∧ w = w' := by
  have HG : Hid (greatB L = (decide (60 < L.length) || L.any greatA)) := rfl
  unfold maxLen at hn
  have HA := Lib.hid ha; clear ha
  by_cases h60 : 60 < L.length
  · have HT : Hid (greatB L = true) := by rw [Hid, HG.out, decide_eq_true h60]; rfl
    have h60 : (60 : Int) < L.length := by omega
    go_enter Try.func4, Try.ntmps4
    go_wp2
    go_ret
    exact ⟨ret_bool HT.out.symm, rfl⟩
  · have HF : Hid (greatB L = L.any greatA) := by rw [Hid, HG.out, decide_eq_false h60]; rfl
    have h60 : (L.length : Int) ≤ 60 := by omega
    go_enter Try.func4, Try.ntmps4
    go_wp2
    go_loop [3] (fun i => ∃ k : Nat, k ≤ L.length ∧ i = .int .i64 k ∧ Hid (∀ m, m < k → greatA (L.getD m noDa) = false)) (fun i => L.length - (intOf i).toNat)
    case atStart => exact ⟨0, Nat.zero_le _, rfl, fun m hm => by omega⟩
    case round =>
      obtain ⟨k, hk, rfl, hso⟩ := hrel
      by_cases hlt : k < L.length
      · obtain ⟨b, off, rfl, hc, hok⟩ := HA.out.at hlt
        have hd := hc.d
        have hm := hc.m
        have hl1 := hok.dn
        have hl2 := hok.kn
        unfold maxLen at hl1 hl2
        have HGA : Hid (greatA (L.getD k noDa) = (decide (6 < (L.getD k noDa).dl.length) || decide (200 < (joined (L.getD k noDa).dl).length) || decide (40 < (L.getD k noDa).kl.length))) := rfl
        have HY : Hid (greatA (L.getD k noDa) = false → ∀ m, m < k + 1 → greatA (L.getD m noDa) = false) := fun hz m hm => by
          rcases Nat.lt_or_ge m k with h' | h'
          · exact hso.out m h'
          · have : m = k := by omega
            rw [this]; exact hz
        have HN : Hid (greatA (L.getD k noDa) = true → greatB L = true) := fun hz => by
          rw [HF.out, List.any_eq_true]
          exact ⟨_, mem_getD hlt, hz⟩
        have KJ := Lib.hid (fun h6 : (L.getD k noDa).dl.length ≤ 1000 => join_any (L.getD k noDa).da (L.getD k noDa).dl (L.getD k noDa).dc w h6 hok.ds hok.dz)
        clear hc hok
        generalize greatA (L.getD k noDa) = g at HGA HY HN
        obtain ⟨tj, htj⟩ : ∃ t, txt (joined (L.getD k noDa).dl) = t := ⟨_, rfl⟩
        have hsj : tj.size = (joined (L.getD k noDa).dl).length := by rw [← htj, txt_size]
        rw [htj] at KJ
        generalize (joined (L.getD k noDa).dl).length = jn at HGA hsj
        clear htj
        generalize (L.getD k noDa).dl.length = dn at *
        generalize (L.getD k noDa).kl.length = kn at *
        generalize (L.getD k noDa).da = da at *
        generalize (L.getD k noDa).dc = dc at *
        generalize (L.getD k noDa).ka = ka at *
        generalize (L.getD k noDa).kc = kc at *
        have hk0 : (0 : Int) ≤ (k : Int) := by omega
        have hk1 : (k : Int) < (L.length : Int) := by omega
        by_cases h6 : 6 < dn
        · have HT := Lib.hid (HN.out (by rw [HGA.out, decide_eq_true h6]; rfl))
          have h6 : (6 : Int) < (dn : Int) := by omega
          clear HY HN KJ
          go_wp2
          go_ret
          exact ⟨ret_bool HT.out.symm, rfl⟩
        · have KJ1 := Lib.hid (KJ.out (by omega))
          have h6' : (dn : Int) ≤ 6 := by omega
          have hj2 : (tj.size : Int) ≤ 9223372036854775807 ∨ True := .inr trivial
          clear hj2 KJ
          by_cases h200 : 200 < tj.size
          · have HT := Lib.hid (HN.out (by rw [HGA.out, ← hsj, decide_eq_true h200, decide_eq_false h6]; rfl))
            have h200 : (200 : Int) < (tj.size : Int) := by omega
            clear HY HN
            go_wp2_with fail
            refine KJ1.out.mono ?_
            rintro e w1 ⟨rfl, rfl⟩
            go_wp2
            go_ret
            exact ⟨ret_bool HT.out.symm, rfl⟩
          · have h200' : (tj.size : Int) ≤ 200 := by omega
            by_cases h40 : 40 < kn
            · have HT := Lib.hid (HN.out (by rw [HGA.out, decide_eq_true h40, Bool.or_true]))
              have h40 : (40 : Int) < (kn : Int) := by omega
              clear HY HN
              go_wp2_with fail
              refine KJ1.out.mono ?_
              rintro e w1 ⟨rfl, rfl⟩
              go_wp2
              go_ret
              exact ⟨ret_bool HT.out.symm, rfl⟩
            · have HT := Lib.hid (HY.out (by rw [HGA.out, ← hsj, decide_eq_false h6, decide_eq_false h200, decide_eq_false h40]; rfl))
              have h40 : (kn : Int) ≤ 40 := by omega
              clear HY HN
              go_wp2_with fail
              refine KJ1.out.mono ?_
              rintro e w1 ⟨rfl, rfl⟩
              go_wp2
              go_round
              case rel => exact ⟨k + 1, by omega, by go_num, HT⟩
              case measure => simp [intOf]; omega
      · have HT : Hid (greatB L = false) := by
          rw [Hid, HF.out, List.any_eq_false]
          intro x hx
          obtain ⟨m, hm, rfl⟩ := List.getElem_of_mem hx
          have := hso.out m (by omega)
          rw [List.getD_eq_getElem?_getD, List.getElem?_eq_getElem hm] at this
          simp only [Option.getD_some] at this
          rw [this]; decide
        go_wp2
        go_ret
        exact ⟨ret_bool HT.out.symm, rfl⟩
end Go.Proofs.Ytobgopiadfinbaa
