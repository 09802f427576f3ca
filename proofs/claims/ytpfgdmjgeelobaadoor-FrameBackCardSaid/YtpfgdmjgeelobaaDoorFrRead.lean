/-
  THE CONTRACT OF frame.read.
-/
import Derived.Test.YtpfgdmjgeelobaaDoorFrSmall
import Derived.Laws.ResultCell
namespace Go.Proofs.YtpfgdmjgeelobaaDoor
open Go.RowKit Crc

theorem extract_extract' (t : ByteArray) (i j : Nat) (h : i + j ≤ t.size) : (t.extract i t.size).extract j (t.extract i t.size).size = t.extract (i + j) t.size := by
  apply ByteArray.ext
  apply Array.toList_inj.1
  have hz : (t.extract i t.size).size = t.size - i := by rw [ByteArray.size_extract]; omega
  rw [extract_list, extract_list, extract_list, hz, List.drop_take, List.take_take, List.drop_drop]
  congr 1
  omega
theorem take_at (t : ByteArray) (i k : Nat) (h : i + k ≤ t.size) (h1 : 1 ≤ k) (h8 : k ≤ 8) (hv : beVal ((t.data.toList.drop i).take k) ≤ 9223372036854775807) :
    takeVal (t.extract i t.size) (k : Int) = .tuple #[.int .i64 (beVal ((t.data.toList.drop i).take k)), .string (t.extract (i + k) t.size), .bool true] := by
  have hz : (t.extract i t.size).size = t.size - i := by rw [ByteArray.size_extract]; omega
  have hl : (t.extract i t.size).data.toList.take k = (t.data.toList.drop i).take k := by
    rw [extract_list, List.take_take]; congr 1; omega
  rw [takeVal_some (by rw [Int.toNat_natCast, hl, hz]; omega), Int.toNat_natCast, hl, extract_extract' t i k h]
theorem take_not (t : ByteArray) (i k : Nat) (h : i + k ≤ t.size) (hv : ¬ beVal ((t.data.toList.drop i).take k) ≤ 9223372036854775807) :
    takeVal (t.extract i t.size) (k : Int) = .tuple #[.int .i64 0, .string (t.extract i t.size), .bool false] := by
  have hl : (t.extract i t.size).data.toList.take k = (t.data.toList.drop i).take k := by
    rw [extract_list, List.take_take]; congr 1; omega
  rw [takeVal_none (by rw [Int.toNat_natCast, hl]; omega)]

/-- What read answers: where it says yes, the parts are read, and right. -/
def ReadPost (t : ByteArray) (w : World) (x : Ending) (w' : World) : Prop :=
  ∃ (e a g : Int) (d : ByteArray) (ok : Bool), x = .returned (.tuple #[.agg #[.int .i64 e, .int .i64 a, .int .i64 g, .string d], .bool ok]) ∧
    ok = frRight (frE t) (frA t) (frG t) (t.size - 21) ∧ (ok = true → e = frE t ∧ a = frA t ∧ g = frG t ∧ d = t.extract 21 t.size) ∧ Below w.heap.size w w'

theorem block_cells {w w' : World} {g : Nat} {cs : Array Value} {T : TypeId} (h : Below (g + 1) (w.alloc (.cells cs T)) w') (hg : g = w.heap.size) :
    (∀ i, w'.cell? ⟨g, i, none⟩ = cs[i]?) ∧ (∀ i, w'.frozen? ⟨g, i, none⟩ = false) := by
  subst hg
  have hb := h.block w.heap.size (by omega)
  rw [heap_alloc_new] at hb
  exact ⟨fun i => by simp [World.cell?, hb], fun i => by simp [World.frozen?, hb]⟩

theorem far4 {w : World} {b g i : Nat} {v0 v1 v2 v3 : Value} (h : g ≠ b) :
    ((((w.setCell ⟨b, 0, none⟩ v0).setCell ⟨b, 1, none⟩ v1).setCell ⟨b, 2, none⟩ v2).setCell ⟨b, 3, none⟩ v3).cell? ⟨g, i, none⟩ = w.cell? ⟨g, i, none⟩ := by
  have hne : ∀ j : Nat, (⟨b, j, none⟩ : Addr) ≠ ⟨g, i, none⟩ := fun j e => by injection e with e1; exact h e1.symm
  rw [World.cell?_setCell_other _ _ _ _ (hne 3), World.cell?_setCell_other _ _ _ _ (hne 2), World.cell?_setCell_other _ _ _ _ (hne 1), World.cell?_setCell_other _ _ _ _ (hne 0)]
theorem set4 {W w : World} {B b : Nat} {v0 v1 v2 v3 u0 u1 u2 u3 : Value} (h : Below B W w) (hb : B ≤ b) (hc : ∀ i, w.cell? ⟨b, i, none⟩ = (#[u0, u1, u2, u3] : Array Value)[i]?) :
    ∃ w', w' = ((((w.setCell ⟨b, 0, none⟩ v0).setCell ⟨b, 1, none⟩ v1).setCell ⟨b, 2, none⟩ v2).setCell ⟨b, 3, none⟩ v3) ∧
      w'.cell? ⟨b, 0, none⟩ = some v0 ∧ w'.cell? ⟨b, 1, none⟩ = some v1 ∧ w'.cell? ⟨b, 2, none⟩ = some v2 ∧ w'.cell? ⟨b, 3, none⟩ = some v3 ∧ Below B W w' := by
  have hne : ∀ i j : Nat, i ≠ j → (⟨b, i, none⟩ : Addr) ≠ ⟨b, j, none⟩ := fun i j hij e => by injection e with _ e2; exact hij e2
  have c0 : w.cell? ⟨b, 0, none⟩ = some u0 := hc 0
  have c1 : w.cell? ⟨b, 1, none⟩ = some u1 := hc 1
  have c2 : w.cell? ⟨b, 2, none⟩ = some u2 := hc 2
  have c3 : w.cell? ⟨b, 3, none⟩ = some u3 := hc 3
  refine ⟨_, rfl, ?_, ?_, ?_, ?_, (((h.setCell hb _).setCell hb _).setCell hb _).setCell hb _⟩
  · rw [World.cell?_setCell_other _ _ _ _ (hne 3 0 (by decide)), World.cell?_setCell_other _ _ _ _ (hne 2 0 (by decide)), World.cell?_setCell_other _ _ _ _ (hne 1 0 (by decide)), World.cell?_setCell_same _ _ _ c0]
  · rw [World.cell?_setCell_other _ _ _ _ (hne 3 1 (by decide)), World.cell?_setCell_other _ _ _ _ (hne 2 1 (by decide)), World.cell?_setCell_same _ _ _ (by rw [World.cell?_setCell_other _ _ _ _ (hne 0 1 (by decide))]; exact c1)]
  · rw [World.cell?_setCell_other _ _ _ _ (hne 3 2 (by decide)), World.cell?_setCell_same _ _ _ (by rw [World.cell?_setCell_other _ _ _ _ (hne 1 2 (by decide)), World.cell?_setCell_other _ _ _ _ (hne 0 2 (by decide))]; exact c2)]
  · rw [World.cell?_setCell_same _ _ _ (by rw [World.cell?_setCell_other _ _ _ _ (hne 2 3 (by decide)), World.cell?_setCell_other _ _ _ _ (hne 1 3 (by decide)), World.cell?_setCell_other _ _ _ _ (hne 0 3 (by decide))]; exact c3)]
theorem after_alloc {w w' : World} {o : Obj} (h : Below (w.alloc o).heap.size (w.alloc o) w') : Below (w.heap.size + 1) (w.alloc o) w' := by
  rw [World.size_alloc] at h
  exact h
theorem after_drew {w w' : World} {o : Obj} (h : Below (w.alloc o).drew.heap.size (w.alloc o).drew w') : Below (w.heap.size + 1) (w.alloc o) w' :=
  after_alloc (((Below.refl (w.alloc o).heap.size (w.alloc o)).drew).trans h)

set_option maxHeartbeats 1000000 in
theorem read_any (t : ByteArray) (w : World) (h21 : 21 ≤ t.size) (hs : t.size ≤ 100000) :
    Calls Tryd.prog 30 #[.string t] w (ReadPost t w) := by
  have HT : Hid (∀ (i k : Nat) (v : Value), i ≤ 100 → k ≤ 100 → takeVal (t.extract i t.size) (k : Int) = v → ∀ W, Calls Tryd.prog 28 #[.string (t.extract i t.size), .int .i64 (k : Int)] W fun e w' => e = .returned v ∧ Below W.heap.size W w') :=
    fun i k v hi hk hv W => by
      subst hv
      exact take_any (t.extract i t.size) k W (by omega) (by rw [ByteArray.size_extract]; omega)
  have he := frE_lt t
  have hz : (t.extract 21 t.size).size = t.size - 21 := by rw [ByteArray.size_extract]; omega
  by_cases ha : frA t ≤ 9223372036854775807
  · by_cases hg : frG t ≤ 9223372036854775807
    · have H1 := Lib.hid (HT.out 1 4 _ (by omega) (by omega) (take_at t 1 4 (by omega) (by omega) (by omega) (by unfold frE at he; omega)))
      have H2 := Lib.hid (HT.out 5 8 _ (by omega) (by omega) (take_at t 5 8 (by omega) (by omega) (by omega) ha))
      have H3 := Lib.hid (HT.out 13 8 _ (by omega) (by omega) (take_at t 13 8 (by omega) (by omega) (by omega) hg))
      have HC := Lib.hid (fun W => clone_any (t.extract 21 t.size) W (by omega))
      have HR := Lib.hid (fun W => right_any (frE t) (frA t) (frG t) (t.extract 21 t.size) W (by omega))
      rw [hz] at HR
      unfold ReadPost
      clear HT
      change Hid (∀ W, Calls Tryd.prog 28 _ W fun e w' => e = .returned (.tuple #[.int .i64 (frE t), _, _]) ∧ _) at H1
      change Hid (∀ W, Calls Tryd.prog 28 _ W fun e w' => e = .returned (.tuple #[.int .i64 (frA t), _, _]) ∧ _) at H2
      change Hid (∀ W, Calls Tryd.prog 28 _ W fun e w' => e = .returned (.tuple #[.int .i64 (frG t), _, _]) ∧ _) at H3
      generalize frE t = E at *
      generalize frA t = A at *
      generalize frG t = G at *
      generalize frRight E A G (t.size - 21) = R at *
      go_enter Tryd.func30, Tryd.ntmps30
      go_wp2_with fail
      refine (H1.out _).mono ?_
      rintro x w1 ⟨rfl, hb1⟩
      go_wp2_with fail
      refine (H2.out _).mono ?_
      rintro x w2 ⟨rfl, hb2⟩
      have hb2 := hb1.trans (hb2.mono hb1.size)
      go_wp2_with fail
      refine (H3.out _).mono ?_
      rintro x w3 ⟨rfl, hb3⟩
      have hb3 := hb2.trans (hb3.mono hb2.size)
      go_wp2_with fail
      refine (HC.out _).mono ?_
      rintro x w4 ⟨rfl, hb4⟩
      have hb4 := hb3.trans (hb4.mono hb3.size)
      clear hb1 hb2 hb3 H1 H2 H3 HC
      go_wp2_with fail
      have hs4 := hb4.size
      rw [World.size_alloc] at hs4
      have hb4 := after_alloc hb4
      go_region_held3 (fun w' => w'.cell? ⟨w4.heap.size, 0, none⟩ = some (.int .i64 E) ∧ w'.cell? ⟨w4.heap.size, 1, none⟩ = some (.int .i64 A) ∧ w'.cell? ⟨w4.heap.size, 2, none⟩ = some (.int .i64 G) ∧ w'.cell? ⟨w4.heap.size, 3, none⟩ = some (.string (t.extract 21 t.size)))
        (first | go_keep | exact ⟨by rw [hc5.1]; rfl, by rw [hc5.1]; rfl, by rw [hc5.1]; rfl, by rw [hc5.1]; rfl⟩ | exact ⟨by rw [far4 (by omega), hc5.1]; rfl, by rw [far4 (by omega), hc5.1]; rfl, by rw [far4 (by omega), hc5.1]; rfl, by rw [far4 (by omega), hc5.1]; rfl⟩)
        (first | (go_at_call 25; refine (HR.out _).mono ?_; rintro x w5 ⟨rfl, hb5⟩; have hb5 := after_drew hb5; have hc5 := block_cells hb5 rfl; have hb6 := hb4.trans (((Below.refl _ w4).alloc (by omega) _).trans (hb5.mono (by omega))); have hc6 := block_cells hb6 rfl))
      all_goals go_wp2
      obtain ⟨W', hW', c0, c1, c2, c3, hbW⟩ := set4 (v0 := .int .i64 E) (v1 := .int .i64 A) (v2 := .int .i64 G) (v3 := .string (t.extract 21 t.size)) (((Below.refl _ w).alloc (Nat.le_refl _) _).trans (hb6.mono (by omega))) (Nat.le_refl _) hc6.1
      rw [← hW']
      refine bodyPost_ret (v := .tuple #[.agg #[.int .i64 E, .int .i64 A, .int .i64 G, .string (t.extract 21 t.size)], .bool R]) (by simp [results, Tryd.results30, go_sem, c0, c1, c2, c3]) rfl ⟨_, _, _, _, R, rfl, rfl, fun _ => ⟨rfl, rfl, rfl, rfl⟩, hbW⟩
    · have hR : frRight (frE t) (frA t) (frG t) (t.size - 21) = false := by unfold frRight; simp; omega
      have H1 := Lib.hid (HT.out 1 4 _ (by omega) (by omega) (take_at t 1 4 (by omega) (by omega) (by omega) (by unfold frE at he; omega)))
      have H2 := Lib.hid (HT.out 5 8 _ (by omega) (by omega) (take_at t 5 8 (by omega) (by omega) (by omega) ha))
      have H3 := Lib.hid (HT.out 13 8 _ (by omega) (by omega) (take_not t 13 8 (by omega) hg))
      unfold ReadPost
      rw [hR]
      clear HT hR
      change Hid (∀ W, Calls Tryd.prog 28 _ W fun e w' => e = .returned (.tuple #[.int .i64 (frE t), _, _]) ∧ _) at H1
      change Hid (∀ W, Calls Tryd.prog 28 _ W fun e w' => e = .returned (.tuple #[.int .i64 (frA t), _, _]) ∧ _) at H2
      generalize frE t = E at *
      generalize frA t = A at *
      generalize frG t = G at *
      go_enter Tryd.func30, Tryd.ntmps30
      go_wp2_with fail
      refine (H1.out _).mono ?_
      rintro x w1 ⟨rfl, hb1⟩
      go_wp2_with fail
      refine (H2.out _).mono ?_
      rintro x w2 ⟨rfl, hb2⟩
      have hb2 := hb1.trans (hb2.mono hb1.size)
      go_wp2_with fail
      refine (H3.out _).mono ?_
      rintro x w3 ⟨rfl, hb3⟩
      have hb3 := after_alloc (hb2.trans (hb3.mono hb2.size))
      clear hb1 hb2 H1 H2 H3
      have hc6 := block_cells hb3 rfl
      go_wp2
      obtain ⟨W', hW', c0, c1, c2, c3, hbW⟩ := set4 (v0 := .int .i64 0) (v1 := .int .i64 0) (v2 := .int .i64 0) (v3 := .string ⟨#[]⟩) (((Below.refl _ w).alloc (Nat.le_refl _) _).trans (hb3.mono (by omega))) (Nat.le_refl _) hc6.1
      rw [← hW']
      refine bodyPost_ret (v := .tuple #[.agg #[.int .i64 0, .int .i64 0, .int .i64 0, .string ⟨#[]⟩], .bool false]) (by simp [results, Tryd.results30, go_sem, c0, c1, c2, c3]) rfl ⟨_, _, _, _, false, rfl, rfl, (fun h => by cases h), hbW⟩
  · have hR : frRight (frE t) (frA t) (frG t) (t.size - 21) = false := by unfold frRight; simp; omega
    have H1 := Lib.hid (HT.out 1 4 _ (by omega) (by omega) (take_at t 1 4 (by omega) (by omega) (by omega) (by unfold frE at he; omega)))
    have H2 := Lib.hid (HT.out 5 8 _ (by omega) (by omega) (take_not t 5 8 (by omega) ha))
    have H3 := Lib.hid H2.out
    unfold ReadPost
    rw [hR]
    clear HT hR
    change Hid (∀ W, Calls Tryd.prog 28 _ W fun e w' => e = .returned (.tuple #[.int .i64 (frE t), _, _]) ∧ _) at H1
    generalize frE t = E at *
    generalize frA t = A at *
    generalize frG t = G at *
    go_enter Tryd.func30, Tryd.ntmps30
    go_wp2_with fail
    refine (H1.out _).mono ?_
    rintro x w1 ⟨rfl, hb1⟩
    go_wp2_with fail
    refine (H2.out _).mono ?_
    rintro x w2 ⟨rfl, hb2⟩
    have hb2 := hb1.trans (hb2.mono hb1.size)
    go_wp2_with fail
    refine (H3.out _).mono ?_
    rintro x w3 ⟨rfl, hb3⟩
    have hb3 := after_alloc (hb2.trans (hb3.mono hb2.size))
    clear hb1 hb2 H1 H2 H3
    have hc6 := block_cells hb3 rfl
    go_wp2
    obtain ⟨W', hW', c0, c1, c2, c3, hbW⟩ := set4 (v0 := .int .i64 0) (v1 := .int .i64 0) (v2 := .int .i64 0) (v3 := .string ⟨#[]⟩) (((Below.refl _ w).alloc (Nat.le_refl _) _).trans (hb3.mono (by omega))) (Nat.le_refl _) hc6.1
    rw [← hW']
    refine bodyPost_ret (v := .tuple #[.agg #[.int .i64 0, .int .i64 0, .int .i64 0, .string ⟨#[]⟩], .bool false]) (by simp [results, Tryd.results30, go_sem, c0, c1, c2, c3]) rfl ⟨_, _, _, _, false, rfl, rfl, (fun h => by cases h), hbW⟩
end Go.Proofs.YtpfgdmjgeelobaaDoor
