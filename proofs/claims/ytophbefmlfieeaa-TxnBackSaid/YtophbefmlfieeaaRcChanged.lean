/-
  THE CONTRACT OF record.changed.
-/
import Derived.Test.YtophbefmlfieeaaRcAll
namespace Go.Proofs.Ytophbefmlfieeaa
open Go.RowKit

theorem keep_alloc {W : World} {o : Obj} {p : Addr} {v : Value} (hc : W.cell? p = some v) : (W.alloc o).cell? p = some v := by
  rw [World.cell?_alloc_lt W o p (block_lt hc)]; exact hc
theorem new_cell {W : World} {cs : Array Value} {T : TypeId} {g i : Nat} {v : Value} (hg : g = W.heap.size) (hv : cs[i]? = some v) : (W.alloc (.cells cs T)).cell? ⟨g, i, none⟩ = some v := by
  rw [World.cell?_alloc_at (hn := hg)]; exact hv
def vlEq (hb : Bool) (sb : ByteArray) (ha : Bool) (sa : ByteArray) : Bool := (hb == ha) && decide (sb.toList = sa.toList)
def rcChg (k pg : Int) (key : ByteArray) (hb : Bool) (sb : ByteArray) (ha : Bool) (sa : ByteArray) : Bool :=
  !(k == 2 || k == 3) || ((decide (0 ≤ pg) && decide (pg ≤ 63)) && kyOk key && (vlOk hb sb && vlOk ha sa) && !(vlEq hb sb ha sa))
theorem key_one (key : ByteArray) (W : World) (b : Nat) (hc : W.cell? ⟨b, 0, none⟩ = some (.string key)) :
    Calls Try.prog 74 #[.slice (some ⟨b, 0, none⟩) 1 1] W fun e w' => e = .returned (.bool (kyOk key)) ∧ Below W.heap.size W w' := by
  refine (key_any (some ⟨b, 0, none⟩) [key] 1 W (by show 1 ≤ 1000; omega) (.inr ⟨b, 0, rfl, fun i hi => ?_⟩)).mono ?_
  · have : i = 0 := by simpa using hi
    subst this
    exact hc
  · rintro x w1 ⟨rfl, hb⟩
    exact ⟨by simp, hb⟩
theorem value_two (hb : Bool) (sb : ByteArray) (ha : Bool) (sa : ByteArray) (W : World) (b : Nat) (h0 : W.cell? ⟨b, 0, none⟩ = some (.bool hb)) (h1 : W.cell? ⟨b, 1, none⟩ = some (.string sb)) (h2 : W.cell? ⟨b, 2, none⟩ = some (.bool ha)) (h3 : W.cell? ⟨b, 3, none⟩ = some (.string sa)) :
    Calls Try.prog 75 #[.slice (some ⟨b, 0, none⟩) 2 2] W fun e w' => e = .returned (.bool (vlOk hb sb && vlOk ha sa)) ∧ Below W.heap.size W w' := by
  refine (value_any (some ⟨b, 0, none⟩) [(hb, sb), (ha, sa)] 2 W (by show 2 ≤ 1000; omega) (.inr ⟨b, 0, rfl, fun i hi => ?_⟩)).mono ?_
  · have : i = 0 ∨ i = 1 := by simp at hi; omega
    rcases this with rfl | rfl
    · exact ⟨h0, h1⟩
    · exact ⟨h2, h3⟩
  · rintro x w1 ⟨rfl, hb⟩
    exact ⟨by simp [vOk], hb⟩
set_option maxHeartbeats 4000000 in
theorem changed_any (k g t p pg u : Int) (key sb sa : ByteArray) (hb ha : Bool) (w : World) :
    Calls Try.prog 62 #[.agg #[.int .i64 k, .int .i64 g, .int .i64 t, .int .i64 p, .int .i64 pg, .string key, .bool hb, .string sb, .bool ha, .string sa, .int .i64 u]] w
      fun e w' => e = .returned (.bool (rcChg k pg key hb sb ha sa)) ∧ Below w.heap.size w w' := by
  have HR : Hid (rcChg k pg key hb sb ha sa = (!(k == 2 || k == 3) || ((decide (0 ≤ pg) && decide (pg ≤ 63)) && kyOk key && (vlOk hb sb && vlOk ha sa) && !(vlEq hb sb ha sa)))) := rfl
  have H1 := fun W => changes_any k W
  have H2 := fun W => within_any pg 0 63 W
  have H3 := Lib.hid (key_one key)
  have H4 := Lib.hid (value_two hb sb ha sa)
  generalize (k == 2 || k == 3) = b0 at H1 HR
  generalize (decide (0 ≤ pg) && decide (pg ≤ 63)) = b1 at H2 HR
  generalize kyOk key = b2 at H3 HR
  generalize (vlOk hb sb && vlOk ha sa) = b3 at H4 HR
  cases b0
  · go_enter Try.func62, Try.ntmps62
    go_wp2_with fail
    refine (H1 _).mono ?_
    rintro x w1 ⟨rfl, rfl⟩
    go_wp2
    go_ret
    exact ⟨by rw [HR.out]; rfl, (Below.refl _ _).alloc (Nat.le_refl _) _⟩
  · cases b1
    · go_enter Try.func62, Try.ntmps62
      go_wp2_with fail
      refine (H1 _).mono ?_
      rintro x w1 ⟨rfl, rfl⟩
      go_wp2_with fail
      refine (H2 _).mono ?_
      rintro x w1 ⟨rfl, rfl⟩
      go_wp2
      go_ret
      exact ⟨by rw [HR.out]; rfl, (Below.refl _ _).alloc (Nat.le_refl _) _⟩
    · cases b2
      · go_enter Try.func62, Try.ntmps62
        go_wp2_with fail
        refine (H1 _).mono ?_
        rintro x w1 ⟨rfl, rfl⟩
        go_wp2_with fail
        refine (H2 _).mono ?_
        rintro x w1 ⟨rfl, rfl⟩
        go_wp2_with fail
        refine (H3.out _ _ (new_cell (by rw [World.size_alloc]) rfl)).mono ?_
        rintro x w1 ⟨rfl, hb1⟩
        have hbw1 := bw_call hb1 (bw_alloc (bw_alloc (Below.refl w.heap.size w)))
        go_wp2
        go_ret
        exact ⟨by rw [HR.out]; rfl, hbw1⟩
      · cases b3
        · go_enter Try.func62, Try.ntmps62
          go_wp2_with fail
          refine (H1 _).mono ?_
          rintro x w1 ⟨rfl, rfl⟩
          go_wp2_with fail
          refine (H2 _).mono ?_
          rintro x w1 ⟨rfl, rfl⟩
          go_wp2_with fail
          refine (H3.out _ _ (new_cell (by rw [World.size_alloc]) rfl)).mono ?_
          rintro x w1 ⟨rfl, hb1⟩
          have hbw1 := bw_call hb1 (bw_alloc (bw_alloc (Below.refl w.heap.size w)))
          have c6 : w1.cell? ⟨w.heap.size, 6, none⟩ = some (.bool hb) := keep_cell hb1 (keep_alloc (new_cell rfl rfl))
          have c7 : w1.cell? ⟨w.heap.size, 7, none⟩ = some (.string sb) := keep_cell hb1 (keep_alloc (new_cell rfl rfl))
          have c8 : w1.cell? ⟨w.heap.size, 8, none⟩ = some (.bool ha) := keep_cell hb1 (keep_alloc (new_cell rfl rfl))
          have c9 : w1.cell? ⟨w.heap.size, 9, none⟩ = some (.string sa) := keep_cell hb1 (keep_alloc (new_cell rfl rfl))
          clear hb1
          go_wp2_with fail
          refine (H4.out _ _ (new_cell rfl rfl) (new_cell rfl rfl) (new_cell rfl rfl) (new_cell rfl rfl)).mono ?_
          rintro x w2 ⟨rfl, hb2⟩
          have hbw2 := bw_call hb2 (bw_alloc hbw1)
          go_wp2
          go_ret
          exact ⟨by rw [HR.out]; rfl, hbw2⟩
        · by_cases he : sb.toList = sa.toList
          · have HE : Hid (vlEq hb sb ha sa = (hb == ha)) := Lib.hid (by simp [vlEq, he])
            cases hb <;> cases ha
            · go_enter Try.func62, Try.ntmps62
              go_wp2_with fail
              refine (H1 _).mono ?_
              rintro x w1 ⟨rfl, rfl⟩
              go_wp2_with fail
              refine (H2 _).mono ?_
              rintro x w1 ⟨rfl, rfl⟩
              go_wp2_with fail
              refine (H3.out _ _ (new_cell (by rw [World.size_alloc]) rfl)).mono ?_
              rintro x w1 ⟨rfl, hb1⟩
              have hbw1 := bw_call hb1 (bw_alloc (bw_alloc (Below.refl w.heap.size w)))
              have c6 : w1.cell? ⟨w.heap.size, 6, none⟩ = some (.bool false) := keep_cell hb1 (keep_alloc (new_cell rfl rfl))
              have c7 : w1.cell? ⟨w.heap.size, 7, none⟩ = some (.string sb) := keep_cell hb1 (keep_alloc (new_cell rfl rfl))
              have c8 : w1.cell? ⟨w.heap.size, 8, none⟩ = some (.bool false) := keep_cell hb1 (keep_alloc (new_cell rfl rfl))
              have c9 : w1.cell? ⟨w.heap.size, 9, none⟩ = some (.string sa) := keep_cell hb1 (keep_alloc (new_cell rfl rfl))
              clear hb1
              go_wp2_with fail
              refine (H4.out _ _ (new_cell rfl rfl) (new_cell rfl rfl) (new_cell rfl rfl) (new_cell rfl rfl)).mono ?_
              rintro x w2 ⟨rfl, hb2⟩
              have hbw2 := bw_call hb2 (bw_alloc hbw1)
              replace c6 := keep_cell hb2 (keep_alloc c6)
              replace c7 := keep_cell hb2 (keep_alloc c7)
              replace c8 := keep_cell hb2 (keep_alloc c8)
              replace c9 := keep_cell hb2 (keep_alloc c9)
              clear hb2
              go_wp2
              go_ret
              exact ⟨by rw [HR.out, HE.out]; rfl, hbw2⟩
            · go_enter Try.func62, Try.ntmps62
              go_wp2_with fail
              refine (H1 _).mono ?_
              rintro x w1 ⟨rfl, rfl⟩
              go_wp2_with fail
              refine (H2 _).mono ?_
              rintro x w1 ⟨rfl, rfl⟩
              go_wp2_with fail
              refine (H3.out _ _ (new_cell (by rw [World.size_alloc]) rfl)).mono ?_
              rintro x w1 ⟨rfl, hb1⟩
              have hbw1 := bw_call hb1 (bw_alloc (bw_alloc (Below.refl w.heap.size w)))
              have c6 : w1.cell? ⟨w.heap.size, 6, none⟩ = some (.bool false) := keep_cell hb1 (keep_alloc (new_cell rfl rfl))
              have c7 : w1.cell? ⟨w.heap.size, 7, none⟩ = some (.string sb) := keep_cell hb1 (keep_alloc (new_cell rfl rfl))
              have c8 : w1.cell? ⟨w.heap.size, 8, none⟩ = some (.bool true) := keep_cell hb1 (keep_alloc (new_cell rfl rfl))
              have c9 : w1.cell? ⟨w.heap.size, 9, none⟩ = some (.string sa) := keep_cell hb1 (keep_alloc (new_cell rfl rfl))
              clear hb1
              go_wp2_with fail
              refine (H4.out _ _ (new_cell rfl rfl) (new_cell rfl rfl) (new_cell rfl rfl) (new_cell rfl rfl)).mono ?_
              rintro x w2 ⟨rfl, hb2⟩
              have hbw2 := bw_call hb2 (bw_alloc hbw1)
              replace c6 := keep_cell hb2 (keep_alloc c6)
              replace c7 := keep_cell hb2 (keep_alloc c7)
              replace c8 := keep_cell hb2 (keep_alloc c8)
              replace c9 := keep_cell hb2 (keep_alloc c9)
              clear hb2
              go_wp2
              go_ret
              exact ⟨by rw [HR.out, HE.out]; rfl, hbw2⟩
            · go_enter Try.func62, Try.ntmps62
              go_wp2_with fail
              refine (H1 _).mono ?_
              rintro x w1 ⟨rfl, rfl⟩
              go_wp2_with fail
              refine (H2 _).mono ?_
              rintro x w1 ⟨rfl, rfl⟩
              go_wp2_with fail
              refine (H3.out _ _ (new_cell (by rw [World.size_alloc]) rfl)).mono ?_
              rintro x w1 ⟨rfl, hb1⟩
              have hbw1 := bw_call hb1 (bw_alloc (bw_alloc (Below.refl w.heap.size w)))
              have c6 : w1.cell? ⟨w.heap.size, 6, none⟩ = some (.bool true) := keep_cell hb1 (keep_alloc (new_cell rfl rfl))
              have c7 : w1.cell? ⟨w.heap.size, 7, none⟩ = some (.string sb) := keep_cell hb1 (keep_alloc (new_cell rfl rfl))
              have c8 : w1.cell? ⟨w.heap.size, 8, none⟩ = some (.bool false) := keep_cell hb1 (keep_alloc (new_cell rfl rfl))
              have c9 : w1.cell? ⟨w.heap.size, 9, none⟩ = some (.string sa) := keep_cell hb1 (keep_alloc (new_cell rfl rfl))
              clear hb1
              go_wp2_with fail
              refine (H4.out _ _ (new_cell rfl rfl) (new_cell rfl rfl) (new_cell rfl rfl) (new_cell rfl rfl)).mono ?_
              rintro x w2 ⟨rfl, hb2⟩
              have hbw2 := bw_call hb2 (bw_alloc hbw1)
              replace c6 := keep_cell hb2 (keep_alloc c6)
              replace c7 := keep_cell hb2 (keep_alloc c7)
              replace c8 := keep_cell hb2 (keep_alloc c8)
              replace c9 := keep_cell hb2 (keep_alloc c9)
              clear hb2
              go_wp2
              go_ret
              exact ⟨by rw [HR.out, HE.out]; rfl, hbw2⟩
            · go_enter Try.func62, Try.ntmps62
              go_wp2_with fail
              refine (H1 _).mono ?_
              rintro x w1 ⟨rfl, rfl⟩
              go_wp2_with fail
              refine (H2 _).mono ?_
              rintro x w1 ⟨rfl, rfl⟩
              go_wp2_with fail
              refine (H3.out _ _ (new_cell (by rw [World.size_alloc]) rfl)).mono ?_
              rintro x w1 ⟨rfl, hb1⟩
              have hbw1 := bw_call hb1 (bw_alloc (bw_alloc (Below.refl w.heap.size w)))
              have c6 : w1.cell? ⟨w.heap.size, 6, none⟩ = some (.bool true) := keep_cell hb1 (keep_alloc (new_cell rfl rfl))
              have c7 : w1.cell? ⟨w.heap.size, 7, none⟩ = some (.string sb) := keep_cell hb1 (keep_alloc (new_cell rfl rfl))
              have c8 : w1.cell? ⟨w.heap.size, 8, none⟩ = some (.bool true) := keep_cell hb1 (keep_alloc (new_cell rfl rfl))
              have c9 : w1.cell? ⟨w.heap.size, 9, none⟩ = some (.string sa) := keep_cell hb1 (keep_alloc (new_cell rfl rfl))
              clear hb1
              go_wp2_with fail
              refine (H4.out _ _ (new_cell rfl rfl) (new_cell rfl rfl) (new_cell rfl rfl) (new_cell rfl rfl)).mono ?_
              rintro x w2 ⟨rfl, hb2⟩
              have hbw2 := bw_call hb2 (bw_alloc hbw1)
              replace c6 := keep_cell hb2 (keep_alloc c6)
              replace c7 := keep_cell hb2 (keep_alloc c7)
              replace c8 := keep_cell hb2 (keep_alloc c8)
              replace c9 := keep_cell hb2 (keep_alloc c9)
              clear hb2
              go_wp2
              go_ret
              exact ⟨by rw [HR.out, HE.out]; rfl, hbw2⟩
          · have HE : Hid (vlEq hb sb ha sa = false) := Lib.hid (by simp [vlEq, he])
            cases hb <;> cases ha
            · go_enter Try.func62, Try.ntmps62
              go_wp2_with fail
              refine (H1 _).mono ?_
              rintro x w1 ⟨rfl, rfl⟩
              go_wp2_with fail
              refine (H2 _).mono ?_
              rintro x w1 ⟨rfl, rfl⟩
              go_wp2_with fail
              refine (H3.out _ _ (new_cell (by rw [World.size_alloc]) rfl)).mono ?_
              rintro x w1 ⟨rfl, hb1⟩
              have hbw1 := bw_call hb1 (bw_alloc (bw_alloc (Below.refl w.heap.size w)))
              have c6 : w1.cell? ⟨w.heap.size, 6, none⟩ = some (.bool false) := keep_cell hb1 (keep_alloc (new_cell rfl rfl))
              have c7 : w1.cell? ⟨w.heap.size, 7, none⟩ = some (.string sb) := keep_cell hb1 (keep_alloc (new_cell rfl rfl))
              have c8 : w1.cell? ⟨w.heap.size, 8, none⟩ = some (.bool false) := keep_cell hb1 (keep_alloc (new_cell rfl rfl))
              have c9 : w1.cell? ⟨w.heap.size, 9, none⟩ = some (.string sa) := keep_cell hb1 (keep_alloc (new_cell rfl rfl))
              clear hb1
              go_wp2_with fail
              refine (H4.out _ _ (new_cell rfl rfl) (new_cell rfl rfl) (new_cell rfl rfl) (new_cell rfl rfl)).mono ?_
              rintro x w2 ⟨rfl, hb2⟩
              have hbw2 := bw_call hb2 (bw_alloc hbw1)
              replace c6 := keep_cell hb2 (keep_alloc c6)
              replace c7 := keep_cell hb2 (keep_alloc c7)
              replace c8 := keep_cell hb2 (keep_alloc c8)
              replace c9 := keep_cell hb2 (keep_alloc c9)
              clear hb2
              go_wp2
              go_ret
              exact ⟨by rw [HR.out, HE.out]; rfl, hbw2⟩
            · go_enter Try.func62, Try.ntmps62
              go_wp2_with fail
              refine (H1 _).mono ?_
              rintro x w1 ⟨rfl, rfl⟩
              go_wp2_with fail
              refine (H2 _).mono ?_
              rintro x w1 ⟨rfl, rfl⟩
              go_wp2_with fail
              refine (H3.out _ _ (new_cell (by rw [World.size_alloc]) rfl)).mono ?_
              rintro x w1 ⟨rfl, hb1⟩
              have hbw1 := bw_call hb1 (bw_alloc (bw_alloc (Below.refl w.heap.size w)))
              have c6 : w1.cell? ⟨w.heap.size, 6, none⟩ = some (.bool false) := keep_cell hb1 (keep_alloc (new_cell rfl rfl))
              have c7 : w1.cell? ⟨w.heap.size, 7, none⟩ = some (.string sb) := keep_cell hb1 (keep_alloc (new_cell rfl rfl))
              have c8 : w1.cell? ⟨w.heap.size, 8, none⟩ = some (.bool true) := keep_cell hb1 (keep_alloc (new_cell rfl rfl))
              have c9 : w1.cell? ⟨w.heap.size, 9, none⟩ = some (.string sa) := keep_cell hb1 (keep_alloc (new_cell rfl rfl))
              clear hb1
              go_wp2_with fail
              refine (H4.out _ _ (new_cell rfl rfl) (new_cell rfl rfl) (new_cell rfl rfl) (new_cell rfl rfl)).mono ?_
              rintro x w2 ⟨rfl, hb2⟩
              have hbw2 := bw_call hb2 (bw_alloc hbw1)
              replace c6 := keep_cell hb2 (keep_alloc c6)
              replace c7 := keep_cell hb2 (keep_alloc c7)
              replace c8 := keep_cell hb2 (keep_alloc c8)
              replace c9 := keep_cell hb2 (keep_alloc c9)
              clear hb2
              go_wp2
              go_ret
              exact ⟨by rw [HR.out, HE.out]; rfl, hbw2⟩
            · go_enter Try.func62, Try.ntmps62
              go_wp2_with fail
              refine (H1 _).mono ?_
              rintro x w1 ⟨rfl, rfl⟩
              go_wp2_with fail
              refine (H2 _).mono ?_
              rintro x w1 ⟨rfl, rfl⟩
              go_wp2_with fail
              refine (H3.out _ _ (new_cell (by rw [World.size_alloc]) rfl)).mono ?_
              rintro x w1 ⟨rfl, hb1⟩
              have hbw1 := bw_call hb1 (bw_alloc (bw_alloc (Below.refl w.heap.size w)))
              have c6 : w1.cell? ⟨w.heap.size, 6, none⟩ = some (.bool true) := keep_cell hb1 (keep_alloc (new_cell rfl rfl))
              have c7 : w1.cell? ⟨w.heap.size, 7, none⟩ = some (.string sb) := keep_cell hb1 (keep_alloc (new_cell rfl rfl))
              have c8 : w1.cell? ⟨w.heap.size, 8, none⟩ = some (.bool false) := keep_cell hb1 (keep_alloc (new_cell rfl rfl))
              have c9 : w1.cell? ⟨w.heap.size, 9, none⟩ = some (.string sa) := keep_cell hb1 (keep_alloc (new_cell rfl rfl))
              clear hb1
              go_wp2_with fail
              refine (H4.out _ _ (new_cell rfl rfl) (new_cell rfl rfl) (new_cell rfl rfl) (new_cell rfl rfl)).mono ?_
              rintro x w2 ⟨rfl, hb2⟩
              have hbw2 := bw_call hb2 (bw_alloc hbw1)
              replace c6 := keep_cell hb2 (keep_alloc c6)
              replace c7 := keep_cell hb2 (keep_alloc c7)
              replace c8 := keep_cell hb2 (keep_alloc c8)
              replace c9 := keep_cell hb2 (keep_alloc c9)
              clear hb2
              go_wp2
              go_ret
              exact ⟨by rw [HR.out, HE.out]; rfl, hbw2⟩
            · go_enter Try.func62, Try.ntmps62
              go_wp2_with fail
              refine (H1 _).mono ?_
              rintro x w1 ⟨rfl, rfl⟩
              go_wp2_with fail
              refine (H2 _).mono ?_
              rintro x w1 ⟨rfl, rfl⟩
              go_wp2_with fail
              refine (H3.out _ _ (new_cell (by rw [World.size_alloc]) rfl)).mono ?_
              rintro x w1 ⟨rfl, hb1⟩
              have hbw1 := bw_call hb1 (bw_alloc (bw_alloc (Below.refl w.heap.size w)))
              have c6 : w1.cell? ⟨w.heap.size, 6, none⟩ = some (.bool true) := keep_cell hb1 (keep_alloc (new_cell rfl rfl))
              have c7 : w1.cell? ⟨w.heap.size, 7, none⟩ = some (.string sb) := keep_cell hb1 (keep_alloc (new_cell rfl rfl))
              have c8 : w1.cell? ⟨w.heap.size, 8, none⟩ = some (.bool true) := keep_cell hb1 (keep_alloc (new_cell rfl rfl))
              have c9 : w1.cell? ⟨w.heap.size, 9, none⟩ = some (.string sa) := keep_cell hb1 (keep_alloc (new_cell rfl rfl))
              clear hb1
              go_wp2_with fail
              refine (H4.out _ _ (new_cell rfl rfl) (new_cell rfl rfl) (new_cell rfl rfl) (new_cell rfl rfl)).mono ?_
              rintro x w2 ⟨rfl, hb2⟩
              have hbw2 := bw_call hb2 (bw_alloc hbw1)
              replace c6 := keep_cell hb2 (keep_alloc c6)
              replace c7 := keep_cell hb2 (keep_alloc c7)
              replace c8 := keep_cell hb2 (keep_alloc c8)
              replace c9 := keep_cell hb2 (keep_alloc c9)
              clear hb2
              go_wp2
              go_ret
              exact ⟨by rw [HR.out, HE.out]; rfl, hbw2⟩
end Go.Proofs.Ytophbefmlfieeaa
