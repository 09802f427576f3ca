/-
  great of law 13: whether there is more than is asked of.
-/
import Derived.Test.YtkemhkmabbladaaGreatDoorPlActs
namespace Go.Proofs.YtkemhkmabbladaaGreatDoor
open Go.RowKit
/-- What great answers: where it says no, the acts are few, and each one's numbers. -/
def GreatR (w : World) (L : List PAct) (x : Ending) (w' : World) : Prop :=
  (∃ r : Bool, x = .returned (.bool r) ∧ (r = false → L.length ≤ 50 ∧ ∀ i, i < L.length → (L.getD i noPA).l.length ≤ 10)) ∧ Below w.heap.size w w'
set_option maxRecDepth 100000 in
set_option maxHeartbeats 4000000 in
theorem great13_any (a : Option Addr) (L : List PAct) (c : Nat) (w : World) (hn : L.length ≤ maxLen) (hA : PActs w a L) :
    Calls Tryz.prog 5 #[.slice a L.length c] w (GreatR w L) := by
  unfold maxLen at hn
  have HA := Lib.hid hA
  clear hA
  by_cases h50 : (L.length : Int) ≤ 50
  · have B0 := Lib.hid (Below.refl w.heap.size w)
    go_enter Tryz.func5, Tryz.ntmps5
    go_wp2
    go_loopw [3] (fun iv wr => ∃ k : Nat, k ≤ L.length ∧ iv = .int .i64 k ∧ (∀ i, i < k → (L.getD i noPA).l.length ≤ 10) ∧ Hid (Below w.heap.size w wr)) (fun iv _ => L.length - (intOf iv).toNat)
    case atStart => exact ⟨0, Nat.zero_le _, rfl, fun i hi => by omega, B0⟩
    case round =>
      obtain ⟨k, hk, rfl, hall, HB⟩ := hrel
      rename World => wr
      have HALL := Lib.hid hall
      clear B0 hall
      by_cases hlt : k < L.length
      · obtain ⟨b, off, rfl, hc, hok⟩ : ∃ b off, a = some ⟨b, off, none⟩ ∧ (∀ j u, (L.getD k noPA).cells[j]? = some u → wr.cell? ⟨b, off + k * 9 + j, none⟩ = some u) ∧ PActOk wr (L.getD k noPA) := by
          rcases HA.out.below HB.out with rfl | ⟨b, off, e, h⟩
          · simp at hlt
          · exact ⟨b, off, e, h k hlt⟩
        have hk0 : (k : Int) < (L.length : Int) := by omega
        have HL : Hid (∀ n : Nat, n ≤ 10 → (L.getD k noPA).l.length = n → ∀ i, i < k + 1 → (L.getD i noPA).l.length ≤ 10) := fun n hn e i hi => by
          by_cases hik : i < k
          · exact HALL.out i hik
          · rw [show i = k by omega]; omega
        generalize L.getD k noPA = x at *
        have c2 := hc 2 _ rfl
        have c3 := hc 3 _ rfl
        have c5 := hc 5 _ rfl
        have c6 := hc 6 _ rfl
        have c7 := hc 7 _ rfl
        have c8 := hc 8 _ rfl
        clear hc
        have HOK := Lib.hid hok
        clear hok
        obtain ⟨xk, xn, xa, xl, xc, key, has, s, pn, pg, pa, pl, pc⟩ := x
        simp only at c2 c3 c5 c6 c7 c8 HL
        have hfin : Below w.heap.size w wr := HB.out
        have HF := Lib.hid hfin
        clear hfin
        by_cases q1 : (xl.length : Int) ≤ 10
        · by_cases q2 : (key.size : Int) ≤ 100
          · by_cases q3 : (s.size : Int) ≤ 100
            · have KG := Lib.hid (great_any pn pg pa pl pc wr HOK.out.pl HOK.out.pr)
              go_wp2_with fail
              refine KG.out.mono ?_
              rintro y w2 ⟨rfl, hb2⟩
              have HB2 := Lib.hid (HB.out.trans (hb2.mono HB.out.size))
              clear hb2 KG
              have hl10 : xl.length ≤ 10 := by omega
              have HLF := Lib.hid (HL.out xl.length hl10 rfl)
              cases hg : clGreat pl with
              | true =>
                go_wp2
                go_ret
                exact ⟨⟨true, rfl, fun e => by cases e⟩, HB2.out⟩
              | false =>
                go_wp2
                go_roundw
                case rel => exact ⟨k + 1, by omega, by go_num, HLF.out, HB2⟩
                case measure => simp [intOf]; omega
            · go_wp2
              go_ret
              exact ⟨⟨true, rfl, fun e => by cases e⟩, HF.out⟩
          · go_wp2
            go_ret
            exact ⟨⟨true, rfl, fun e => by cases e⟩, HF.out⟩
        · go_wp2
          go_ret
          exact ⟨⟨true, rfl, fun e => by cases e⟩, HF.out⟩
      · have hk0 : (L.length : Int) ≤ (k : Int) := by omega
        go_wp2
        go_ret
        exact ⟨⟨false, rfl, fun _ => ⟨by omega, fun i hi => HALL.out i (by omega)⟩⟩, HB.out⟩
  · have B0 := Lib.hid (Below.refl w.heap.size w)
    go_enter Tryz.func5, Tryz.ntmps5
    go_wp2
    go_ret
    exact ⟨⟨true, rfl, fun e => by cases e⟩, B0.out⟩
end Go.Proofs.YtkemhkmabbladaaGreatDoor
