/-
  THE WALK OF quadrigalaw03.FrameMakes: it returns true, and writes nothing that was there.
-/
import Derived.Test.YtpfgdmjgeelobaaDoorFrSizeA
import Derived.Test.YtpfgdmjgeelobaaDoorFrWake
import Derived.Test.YtpfgdmjgeelobaaDoorFrVars
import Derived.BigRegion
import Derived.Lib.SmallJoins
namespace Go.Proofs.YtpfgdmjgeelobaaDoor
open Go.RowKit Crc

theorem cat_joined (d : ByteArray) (ss : List ByteArray) (k : Nat) (h : k < ss.length) : (d ++ ⟨(joined (ss.take k)).toArray⟩) ++ ss.getD k ByteArray.empty = d ++ (⟨(joined (ss.take (k + 1))).toArray⟩ : ByteArray) := by
  apply ByteArray.ext
  apply Array.toList_inj.1
  rw [joined_take ss k h]
  simp [ByteArray.data_append]
theorem cat_size (d : ByteArray) (ss : List ByteArray) : (d ++ (⟨(joined ss).toArray⟩ : ByteArray)).size = d.size + lens ss := by
  rw [ByteArray.size_append]; congr 1
theorem lens_cons (d : ByteArray) (ss : List ByteArray) : lens (d :: ss) = d.size + lens ss := by
  unfold lens joined
  rw [List.flatMap_cons, List.length_append]
  congr 1

theorem two_new (w : World) (o1 o2 : Obj) : ((w.alloc o1).alloc o2).heap[w.heap.size + 1]? = some o2 ∧ ((w.alloc o1).alloc o2).heap[w.heap.size]? = some o1 := by
  have h1 := heap_alloc_new (w.alloc o1) o2
  rw [World.size_alloc] at h1
  exact ⟨h1, (Below.heap_alloc (w.alloc o1) o2 w.heap.size (by rw [World.size_alloc]; omega)).trans (heap_alloc_new w o1)⟩

set_option maxRecDepth 100000 in
set_option maxHeartbeats 2000000 in
theorem frameMakes_walk (e a g : Int) (d : ByteArray) (sa : Option Addr) (ss : List ByteArray) (cap : Nat) (w : World) (he : (Lit.int .i64 e).wf = true) (ha : (Lit.int .i64 a).wf = true) (hg : (Lit.int .i64 g).wf = true) (hd : d.size ≤ maxLen)
    (hss : Short ss) (hn : ss.length ≤ maxLen) (hc : ss.length ≤ cap) (hsa : StrsAt w sa ss) (ht : Tab w) :
    Calls Tryd.prog 3 #[.agg #[.int .i64 e, .int .i64 a, .int .i64 g, .string d], .slice sa ss.length cap] w fun x w' => x = .returned (.bool true) ∧ Below w.heap.size w w' := by
  have HT := Lib.hid ht; clear ht
  have HA := Lib.hid hsa; clear hsa
  have HSh := Lib.hid hss; clear hss
  unfold maxLen at hd hn
  have KA := Lib.hid (fun W (hW : Below w.heap.size w W) => (awake_fr W (HT.out.below hW)).mono fun e w' h => (⟨h.1, hW.trans (h.2.mono hW.size)⟩ : e = .returned (.bool true) ∧ Below w.heap.size w w'))
  have KB := Lib.hid (fun W (hW : Below w.heap.size w W) => awake_fr W (HT.out.below hW))
  have hw0 : ∀ o, Below w.heap.size w (w.alloc o) := fun o => (Below.refl _ _).alloc (Nat.le_refl _) o
  by_cases h10 : 10 < ss.length
  · have h10' : (10 : Int) < (ss.length : Int) := by omega
    go_enter Tryd.func3, Tryd.ntmps3
    go_wp2_with fail
    refine (KA.out _ (hw0 _)).mono ?_
    rintro x w1 ⟨rfl, hb1⟩
    go_wp2
    go_ret
    exact ⟨rfl, hb1⟩
  · have h10' : (ss.length : Int) ≤ 10 := by omega
    by_cases hbig : 1000 < d.size
    · have hbig' : (1000 : Int) < (d.size : Int) := by omega
      go_enter Tryd.func3, Tryd.ntmps3
      go_wp2_with fail
      refine (KA.out _ (hw0 _)).mono ?_
      rintro x w1 ⟨rfl, hb1⟩
      go_wp2
      go_ret
      exact ⟨rfl, hb1⟩
    · have hbig' : (d.size : Int) ≤ 1000 := by omega
      go_enter Tryd.func3, Tryd.ntmps3
      go_wp2
      go_loopw [6] (fun i wr => ∃ k : Nat, k ≤ ss.length ∧ i = .int .i64 k ∧ Hid (lens (ss.take k) ≤ 1000 * k) ∧
        wr.heap[w.heap.size + 1]? = some (.cells #[.int .i64 e, .int .i64 a, .int .i64 g, .string (d ++ ⟨(joined (ss.take k)).toArray⟩)] 23 (0, 0)) ∧
        wr.heap[w.heap.size]? = some (.cells #[.int .i64 e, .int .i64 a, .int .i64 g, .string d] 23 (0, 0)) ∧ Below w.heap.size w wr) (fun i _ => ss.length - (intOf i).toNat)
      case atStart =>
        have hz : d ++ (⟨(joined (ss.take 0)).toArray⟩ : ByteArray) = d := by
          apply ByteArray.ext; simp [ByteArray.data_append, joined]
        refine ⟨0, Nat.zero_le _, rfl, by simp [Hid, lens, joined], ?_, ?_, ?_⟩
        · rw [hz]; exact (two_new w _ _).1
        · exact (two_new w _ _).2
        · exact bw_alloc (hw0 _)
      case round =>
        obtain ⟨k, hk, rfl, hlen, hb1, hb0, hbr⟩ := hrel
        by_cases hlt : k < ss.length
        · obtain ⟨b, off, rfl, hcc⟩ : ∃ b off, sa = some ⟨b, off, none⟩ ∧ ∀ i, i < ss.length → w.cell? ⟨b, off + i, none⟩ = some (.string (ss.getD i ByteArray.empty)) := by
            rcases HA.out with h | h
            · rw [h] at hlt; simp at hlt
            · exact h
          have hck := (hbr.cell (p := ⟨b, off + k, none⟩) (cell_lt (hcc k hlt))).trans (hcc k hlt)
          clear hcc
          have G1 := Lib.hid (cat_joined d ss k hlt)
          have G2 := Lib.hid (lens_take ss k hlt)
          have hLs := cat_size d (ss.take k)
          have hl0 := hlen.out
          obtain ⟨s, hs⟩ : ∃ s, s = ss.getD k ByteArray.empty := ⟨_, rfl⟩
          obtain ⟨D, hD⟩ : ∃ D, D = d ++ (⟨(joined (ss.take k)).toArray⟩ : ByteArray) := ⟨_, rfl⟩
          rw [← hs] at G1 G2 hck
          rw [← hD] at G1 hb1 hLs
          clear hs hD
          have k3 := Go.Joins.cell_of_block hb1 3
          have k4 := Go.Joins.unfrozen_of_block hb1 3
          simp only [List.getElem?_toArray, List.getElem?_cons_zero, List.getElem?_cons_succ] at k3
          by_cases hsz : 1000 < s.size
          · have hsz' : (1000 : Int) < (s.size : Int) := by omega
            go_wp2_with fail
            refine (KA.out _ hbr).mono ?_
            rintro x w1 ⟨rfl, hb1⟩
            go_wp2
            go_ret
            exact ⟨rfl, hb1⟩
          · have hsz' : (s.size : Int) ≤ 1000 := by omega
            have hcat : ¬ 9223372036854775807 < D.size + s.size := by omega
            go_wp2_with fail
            go_region
            all_goals go_wp2
            go_roundw
            case rel => exact ⟨k + 1, by omega, by go_num, by rw [Hid, G2.out]; omega, by rw [← G1.out]; exact Go.Joins.block_setCell hb1 _, (Below.heap_setCell wr ⟨w.heap.size + 1, 3, none⟩ _ w.heap.size (by show w.heap.size ≠ w.heap.size + 1; omega)).trans hb0, (hbr.setCell (Nat.le_succ _) _).drew⟩
            case measure => simp [intOf]; omega
        · have hfull : ss.take k = ss := List.take_of_length_le (by omega)
          rw [hfull] at hb1 hlen
          have hl0 := hlen.out
          have hLs := cat_size d ss
          obtain ⟨D, hD⟩ : ∃ D, D = d ++ (⟨(joined ss).toArray⟩ : ByteArray) := ⟨_, rfl⟩
          rw [← hD] at hb1 hLs
          have HD := Lib.hid hD
          clear hD
          have p0 := Go.Joins.cell_of_block hb1 0
          have p1 := Go.Joins.cell_of_block hb1 1
          have p2 := Go.Joins.cell_of_block hb1 2
          have p3 := Go.Joins.cell_of_block hb1 3
          have q0 := Go.Joins.cell_of_block hb0 0
          have q1 := Go.Joins.cell_of_block hb0 1
          have q2 := Go.Joins.cell_of_block hb0 2
          have q3 := Go.Joins.cell_of_block hb0 3
          simp only [List.getElem?_toArray, List.getElem?_cons_zero, List.getElem?_cons_succ] at p0 p1 p2 p3 q0 q1 q2 q3
          have KR := Lib.hid (fun W => refRight_all e a g D W)
          have hDb : D.size ≤ 20000 := by omega
          have KS : Hid (∀ a' c' W', StrsAt W' a' (d :: ss) → Calls Tryd.prog 12 #[.slice a' (ss.length + 1) c'] W' fun x w' => x = .returned (.int .i64 (25 + (D.size : Int))) ∧ W' = w') := fun a' c' W' hs => by
            have hlc := lens_cons d ss
            have := size_any a' (d :: ss) c' W' (by simp; omega) (by rw [hlc]; omega) hs
            rw [hlc, ← hLs, show ((25 + D.size : Nat) : Int) = 25 + (D.size : Int) from by omega] at this
            exact this
          have KM0 := fun W (hW : Below w.heap.size w W) => make_any e a g d sa ss cap W he ha hg (by omega) (by omega) (by omega) hc HSh.out (HA.out.below hW) (HT.out.below hW)
          rw [← HD.out] at KM0
          cases hr : frRight e a g D.size
          · rw [hr] at KR
            have hM : makeStr e a g D = ⟨#[]⟩ := by unfold makeStr; rw [if_neg (by rw [hr]; simp)]
            rw [hM] at KM0
            have KM := Lib.hid KM0
            clear KM0 hr hM he ha hg hLs hl0 hlen
            go_wp2_with fail
            refine (KR.out _).mono ?_
            rintro x w1 ⟨rfl, hb1⟩
            go_wp2_with fail
            have hwD : IntKind.i64.wrap (25 + (D.size : Int)) = 25 + (D.size : Int) := by rw [IntKind.wrap_i64]; omega
            refine wp_region_held_drew (S := (fun w' => w'.cell? ⟨w.heap.size, 0, none⟩ = some (.int .i64 e) ∧ w'.cell? ⟨w.heap.size, 1, none⟩ = some (.int .i64 a) ∧ w'.cell? ⟨w.heap.size, 2, none⟩ = some (.int .i64 g) ∧ w'.cell? ⟨w.heap.size, 3, none⟩ = some (.string d) ∧ w'.cell? ⟨w.heap.size + 1, 3, none⟩ = some (.string D) ∧ Below w.heap.size w w')) (by kernel_rfl) ?_ (fun hHeld => ?_)
            · (try dsimp only); (refine ⟨?_, ?_, ?_, ?_, ?_, ?_⟩ <;> (repeat (first | with_reducible assumption | with_reducible refine keep_alloc ?_ | with_reducible refine keep_drew ?_ | with_reducible refine keep_cell (by assumption) ?_ | with_reducible refine bw_alloc ?_ | with_reducible refine bw_drew ?_ | with_reducible refine bw_call (by assumption) ?_)))
            refine wpAnyH_take (i := 0) (oi := { dst := some 44, op := Op.load 23 (Operand.tmp 2), type := 23, pos := "law.go:42", after := #[], guard := none }) (v := ?_) rfl (by kernel_rfl) (by kernel_rfl) (by kernel_rfl) (fun _ _ _ h => h) (Or.inl ⟨by rfl, ?_⟩) (by assumption) ?_
            rotate_left 1
            · (intro w' hSw; (try dsimp only at hSw); go_simp; try (with_reducible rfl))
            try simp only [Act.put, List.setIfInBounds_toArray, List.set_cons_zero, List.set_cons_succ]
            refine wpAnyH_take (i := 1) (oi := { dst := some 45, op := Op.move (Operand.tmp 1), type := 24, pos := "law.go:42", after := #[], guard := none }) (v := ?_) rfl (by kernel_rfl) (by kernel_rfl) (by kernel_rfl) (fun _ _ _ h => h) (Or.inl ⟨by rfl, ?_⟩) (by assumption) ?_
            rotate_left 1
            · (intro w' hSw; (try dsimp only at hSw); go_simp; try (with_reducible rfl))
            try simp only [Act.put, List.setIfInBounds_toArray, List.set_cons_zero, List.set_cons_succ]
            refine wpAnyH_take (i := 3) (oi := { dst := some 47, op := Op.move (Operand.tmp 7), type := 9, pos := "law.go:42", after := #[], guard := none }) (v := ?_) rfl (by kernel_rfl) (by kernel_rfl) (by kernel_rfl) (fun _ _ _ h => h) (Or.inl ⟨by rfl, ?_⟩) (by assumption) ?_
            rotate_left 1
            · (intro w' hSw; (try dsimp only at hSw); go_simp; try (with_reducible rfl))
            try simp only [Act.put, List.setIfInBounds_toArray, List.set_cons_zero, List.set_cons_succ]
            refine wpAnyH_ready (rs := [2]) (by kernel_rfl) (by simp) ?_
            refine AllReadyH.cons rfl (fun K hK => ?_) AllReadyH.nil
            go_simp
            go_wp2_with (go_at_call 11; refine (KM.out _ ?_).mono ?_; ((repeat (first | with_reducible assumption | with_reducible refine keep_alloc ?_ | with_reducible refine keep_drew ?_ | with_reducible refine keep_cell (by assumption) ?_ | with_reducible refine bw_alloc ?_ | with_reducible refine bw_drew ?_ | with_reducible refine bw_call (by assumption) ?_))); rintro x w3 ⟨rfl, hb3⟩)
            refine hK.out _ _ ?_ (fun hHeld => ?_)
            · (try dsimp only); (refine ⟨?_, ?_, ?_, ?_, ?_, ?_⟩ <;> (repeat (first | with_reducible assumption | with_reducible refine keep_alloc ?_ | with_reducible refine keep_drew ?_ | with_reducible refine keep_cell (by assumption) ?_ | with_reducible refine bw_alloc ?_ | with_reducible refine bw_drew ?_ | with_reducible refine bw_call (by assumption) ?_)))
            clear hK K
            refine wpAnyH_take (i := 4) (oi := { dst := some 48, op := Op.binOp BinOp.eql 9 (Operand.tmp 46) (Operand.tmp 47) 9, type := 4, pos := "law.go:42", after := #[{ on := 2, ground := Ground.data }, { on := 3, ground := Ground.data }], guard := none }) (v := ?_) rfl (by kernel_rfl) (by kernel_rfl) (by kernel_rfl) (fun _ _ _ h => h) (Or.inl ⟨by rfl, ?_⟩) (by assumption) ?_
            rotate_left 1
            · (intro w' hSw; (try dsimp only at hSw); go_simp; try (with_reducible rfl))
            try simp only [Act.put, List.setIfInBounds_toArray, List.set_cons_zero, List.set_cons_succ]
            refine wpAnyH_take (i := 5) (oi := { dst := some 49, op := Op.move (Operand.tmp 48), type := 4, pos := "law.go:42", after := #[{ on := 4, ground := Ground.data }, { on := 2, ground := Ground.chain }], guard := none }) (v := ?_) rfl (by kernel_rfl) (by kernel_rfl) (by kernel_rfl) (fun _ _ _ h => h) (Or.inl ⟨by rfl, ?_⟩) (by assumption) ?_
            rotate_left 1
            · (intro w' hSw; (try dsimp only at hSw); go_simp; try (with_reducible rfl))
            try simp only [Act.put, List.setIfInBounds_toArray, List.set_cons_zero, List.set_cons_succ]
            refine wpAnyH_take (i := 6) (oi := { dst := some 50, op := Op.fieldAddr 23 (Operand.tmp 2) 3, type := 0, pos := "law.go:42", after := #[{ on := 5, ground := Ground.guard }], guard := some (5, true) }) (v := ?_) rfl (by kernel_rfl) (by kernel_rfl) (by kernel_rfl) (fun _ _ _ h => h) (Or.inl ⟨by rfl, ?_⟩) (by assumption) ?_
            rotate_left 1
            · (intro w' hSw; (try dsimp only at hSw); go_simp; try (with_reducible rfl))
            try simp only [Act.put, List.setIfInBounds_toArray, List.set_cons_zero, List.set_cons_succ]
            refine wpAnyH_take (i := 7) (oi := { dst := some 51, op := Op.load 9 (Operand.tmp 50), type := 9, pos := "law.go:42", after := #[{ on := 6, ground := Ground.data }, { on := 5, ground := Ground.guard }], guard := some (5, true) }) (v := ?_) rfl (by kernel_rfl) (by kernel_rfl) (by kernel_rfl) (fun _ _ _ h => h) (Or.inl ⟨by rfl, ?_⟩) (by assumption) ?_
            rotate_left 1
            · (intro w' hSw; (try dsimp only at hSw); go_simp; try (with_reducible rfl))
            try simp only [Act.put, List.setIfInBounds_toArray, List.set_cons_zero, List.set_cons_succ]
            refine wpAnyH_take (i := 9) (oi := { dst := some 53, op := Op.move (Operand.tmp 1), type := 24, pos := "law.go:42", after := #[{ on := 5, ground := Ground.guard }], guard := some (5, true) }) (v := ?_) rfl (by kernel_rfl) (by kernel_rfl) (by kernel_rfl) (fun _ _ _ h => h) (Or.inl ⟨by rfl, ?_⟩) (by assumption) ?_
            rotate_left 1
            · (intro w' hSw; (try dsimp only at hSw); go_simp; try (with_reducible rfl))
            try simp only [Act.put, List.setIfInBounds_toArray, List.set_cons_zero, List.set_cons_succ]
            refine wpAnyH_take (i := 12) (oi := { dst := some 56, op := Op.fieldAddr 23 (Operand.tmp 5) 3, type := 0, pos := "law.go:42", after := #[{ on := 5, ground := Ground.guard }], guard := some (5, true) }) (v := ?_) rfl (by kernel_rfl) (by kernel_rfl) (by kernel_rfl) (fun _ _ _ h => h) (Or.inl ⟨by rfl, ?_⟩) (by assumption) ?_
            rotate_left 1
            · (intro w' hSw; (try dsimp only at hSw); go_simp; try (with_reducible rfl))
            try simp only [Act.put, List.setIfInBounds_toArray, List.set_cons_zero, List.set_cons_succ]
            refine wpAnyH_take (i := 13) (oi := { dst := some 57, op := Op.load 9 (Operand.tmp 56), type := 9, pos := "law.go:42", after := #[{ on := 12, ground := Ground.data }, { on := 5, ground := Ground.guard }], guard := some (5, true) }) (v := ?_) rfl (by kernel_rfl) (by kernel_rfl) (by kernel_rfl) (fun _ _ _ h => h) (Or.inl ⟨by rfl, ?_⟩) (by assumption) ?_
            rotate_left 1
            · (intro w' hSw; (try dsimp only at hSw); go_simp; try (with_reducible rfl))
            try simp only [Act.put, List.setIfInBounds_toArray, List.set_cons_zero, List.set_cons_succ]
            refine wpAnyH_take (i := 14) (oi := { dst := some 58, op := Op.call { callee := Callee.builtin Builtin.len, args := #[Operand.tmp 57], argTypes := #[9] }, type := 3, pos := "law.go:42", after := #[{ on := 13, ground := Ground.data }, { on := 5, ground := Ground.guard }], guard := some (5, true) }) (v := ?_) rfl (by kernel_rfl) (by kernel_rfl) (by kernel_rfl) (fun _ _ _ h => h) (Or.inl ⟨by rfl, ?_⟩) (by assumption) ?_
            rotate_left 1
            · (intro w' hSw; (try dsimp only at hSw); go_simp; try (with_reducible rfl))
            try simp only [Act.put, List.setIfInBounds_toArray, List.set_cons_zero, List.set_cons_succ]
            refine wpAnyH_take (i := 15) (oi := { dst := some 59, op := Op.binOp BinOp.add 3 (Operand.const (Value.int IntKind.i64 25)) (Operand.tmp 58) 3, type := 3, pos := "law.go:42", after := #[{ on := 14, ground := Ground.data }, { on := 5, ground := Ground.guard }], guard := some (5, true) }) (v := ?_) rfl (by kernel_rfl) (by kernel_rfl) (by kernel_rfl) (fun _ _ _ h => h) (Or.inl ⟨by rfl, ?_⟩) (by assumption) ?_
            rotate_left 1
            · (intro w' hSw; (try dsimp only at hSw); go_simp; try (with_reducible rfl))
            try simp only [Act.put, List.setIfInBounds_toArray, List.set_cons_zero, List.set_cons_succ]
            refine wpAnyH_ready (rs := [8]) (by kernel_rfl) (by simp) ?_
            refine AllReadyH.cons rfl (fun K hK => ?_) AllReadyH.nil
            go_simp
            refine hK.out _ _ ?_ (fun hHeld => ?_)
            · (try dsimp only); (refine ⟨?_, ?_, ?_, ?_, ?_, ?_⟩ <;> (repeat (first | with_reducible assumption | with_reducible refine keep_alloc ?_ | with_reducible refine keep_drew ?_ | with_reducible refine keep_cell (by assumption) ?_ | with_reducible refine bw_alloc ?_ | with_reducible refine bw_drew ?_ | with_reducible refine bw_call (by assumption) ?_)))
            clear hK K
            obtain ⟨a', c', W', hrun, hs, hbA⟩ := append_more d sa ss cap w3 (by omega) (HA.out.below (by (repeat (first | with_reducible assumption | with_reducible refine keep_alloc ?_ | with_reducible refine keep_drew ?_ | with_reducible refine keep_cell (by assumption) ?_ | with_reducible refine bw_alloc ?_ | with_reducible refine bw_drew ?_ | with_reducible refine bw_call (by assumption) ?_))))
            refine wpAnyH_ready (rs := [10]) (by kernel_rfl) (by simp) ?_
            refine AllReadyH.cons rfl (fun K hK => ?_) AllReadyH.nil
            rw [if_pos (by rfl)]
            refine wp_append_run (Operand.tmp 52) (Operand.tmp 53) 24 rfl _ _ _ _ rfl rfl hrun ?_
            refine hK.out _ _ ?_ (fun hHeld => ?_)
            · (try dsimp only); (refine ⟨?_, ?_, ?_, ?_, ?_, ?_⟩ <;> (repeat (first | with_reducible assumption | with_reducible refine keep_alloc ?_ | with_reducible refine keep_drew ?_ | with_reducible refine keep_cell (by assumption) ?_ | with_reducible refine bw_alloc ?_ | with_reducible refine bw_drew ?_ | with_reducible refine bw_call (by assumption) ?_)))
            clear hK K
            try simp only [Act.put, List.setIfInBounds_toArray]
            refine wpAnyH_ready (rs := [11]) (by kernel_rfl) (by simp) ?_
            refine AllReadyH.cons rfl (fun K hK => ?_) AllReadyH.nil
            go_simp
            go_wp2_with (go_at_call 12; refine (KS.out _ _ _ hs).mono ?_; rintro x w4 ⟨rfl, rfl⟩)
            refine hK.out _ _ ?_ (fun hHeld => ?_)
            · (try dsimp only); (refine ⟨?_, ?_, ?_, ?_, ?_, ?_⟩ <;> (repeat (first | with_reducible assumption | with_reducible refine keep_alloc ?_ | with_reducible refine keep_drew ?_ | with_reducible refine keep_cell (by assumption) ?_ | with_reducible refine bw_alloc ?_ | with_reducible refine bw_drew ?_ | with_reducible refine bw_call (by assumption) ?_)))
            clear hK K
            clear hrun hs KS
            refine wpAnyH_take (i := 16) (oi := { dst := some 60, op := Op.binOp BinOp.eql 3 (Operand.tmp 55) (Operand.tmp 59) 3, type := 4, pos := "law.go:42", after := #[{ on := 11, ground := Ground.data }, { on := 15, ground := Ground.data }, { on := 5, ground := Ground.guard }], guard := some (5, true) }) (v := ?_) rfl (by kernel_rfl) (by kernel_rfl) (by kernel_rfl) (fun _ _ _ h => h) (Or.inl ⟨by rfl, ?_⟩) (by assumption) ?_
            rotate_left 1
            · (intro w' hSw; (try dsimp only at hSw); go_simp; try (with_reducible rfl))
            try simp only [Act.put, List.setIfInBounds_toArray, List.set_cons_zero, List.set_cons_succ]
            refine wpAnyH_take (i := 17) (oi := { dst := some 61, op := Op.pick (Operand.tmp 49) (Operand.tmp 60) (Operand.const (Value.bool false)), type := 4, pos := "law.go:42", after := #[{ on := 5, ground := Ground.data }, { on := 16, ground := Ground.data }], guard := none }) (v := ?_) rfl (by kernel_rfl) (by kernel_rfl) (by kernel_rfl) (fun _ _ _ h => h) (Or.inl ⟨by rfl, ?_⟩) (by assumption) ?_
            rotate_left 1
            · (intro w' hSw; (try dsimp only at hSw); go_simp; try (with_reducible rfl))
            try simp only [Act.put, List.setIfInBounds_toArray, List.set_cons_zero, List.set_cons_succ]
            refine wpAnyH_take (i := 18) (oi := { dst := some 62, op := Op.move (Operand.tmp 61), type := 4, pos := "law.go:42", after := #[{ on := 17, ground := Ground.data }, { on := 11, ground := Ground.chain }], guard := none }) (v := ?_) rfl (by kernel_rfl) (by kernel_rfl) (by kernel_rfl) (fun _ _ _ h => h) (Or.inl ⟨by rfl, ?_⟩) (by assumption) ?_
            rotate_left 1
            · (intro w' hSw; (try dsimp only at hSw); go_simp; try (with_reducible rfl))
            try simp only [Act.put, List.setIfInBounds_toArray, List.set_cons_zero, List.set_cons_succ]
            refine wpAnyH_ready (rs := [19]) (by kernel_rfl) (by simp) ?_
            refine AllReadyH.cons rfl (fun K hK => ?_) AllReadyH.nil
            go_simp
            go_wp2_with (go_at_call 8; refine (KB.out _ ?_).mono ?_; ((repeat (first | with_reducible assumption | with_reducible refine keep_alloc ?_ | with_reducible refine keep_drew ?_ | with_reducible refine keep_cell (by assumption) ?_ | with_reducible refine bw_alloc ?_ | with_reducible refine bw_drew ?_ | with_reducible refine bw_call (by assumption) ?_))); rintro x w5 ⟨rfl, hb5⟩)
            refine hK.out _ _ ?_ (fun hHeld => ?_)
            · (try dsimp only); (refine ⟨?_, ?_, ?_, ?_, ?_, ?_⟩ <;> (repeat (first | with_reducible assumption | with_reducible refine keep_alloc ?_ | with_reducible refine keep_drew ?_ | with_reducible refine keep_cell (by assumption) ?_ | with_reducible refine bw_alloc ?_ | with_reducible refine bw_drew ?_ | with_reducible refine bw_call (by assumption) ?_)))
            clear hK K
            refine wpAnyH_take (i := 20) (oi := { dst := some 64, op := Op.pick (Operand.tmp 62) (Operand.tmp 63) (Operand.const (Value.bool false)), type := 4, pos := "law.go:42", after := #[{ on := 18, ground := Ground.data }, { on := 19, ground := Ground.data }], guard := none }) (v := ?_) rfl (by kernel_rfl) (by kernel_rfl) (by kernel_rfl) (fun _ _ _ h => h) (Or.inl ⟨by rfl, ?_⟩) (by assumption) ?_
            rotate_left 1
            · (intro w' hSw; (try dsimp only at hSw); go_simp; try (with_reducible rfl))
            try simp only [Act.put, List.setIfInBounds_toArray, List.set_cons_zero, List.set_cons_succ]
            refine wpAnyH_take (i := 21) (oi := { dst := some 4, op := Op.assign (Operand.tmp 64), type := 4, pos := "law.go:42", after := #[{ on := 20, ground := Ground.data }, { on := 19, ground := Ground.chain }, { on := 0, ground := Ground.phase }, { on := 1, ground := Ground.phase }, { on := 2, ground := Ground.phase }, { on := 3, ground := Ground.phase }, { on := 4, ground := Ground.phase }, { on := 5, ground := Ground.phase }, { on := 6, ground := Ground.phase }, { on := 7, ground := Ground.phase }, { on := 8, ground := Ground.phase }, { on := 9, ground := Ground.phase }, { on := 10, ground := Ground.phase }, { on := 11, ground := Ground.phase }, { on := 12, ground := Ground.phase }, { on := 13, ground := Ground.phase }, { on := 14, ground := Ground.phase }, { on := 15, ground := Ground.phase }, { on := 16, ground := Ground.phase }, { on := 17, ground := Ground.phase }, { on := 18, ground := Ground.phase }, { on := 19, ground := Ground.phase }, { on := 20, ground := Ground.phase }], guard := none }) (v := ?_) rfl (by kernel_rfl) (by kernel_rfl) (by kernel_rfl) (fun _ _ _ h => h) (Or.inl ⟨by rfl, ?_⟩) (by assumption) ?_
            rotate_left 1
            · (intro w' hSw; (try dsimp only at hSw); go_simp; try (with_reducible rfl))
            try simp only [Act.put, List.setIfInBounds_toArray, List.set_cons_zero, List.set_cons_succ]
            refine wpAnyH_done (by kernel_rfl) ?_ _
            go_wp2
            go_ret
            exact ⟨rfl, by (repeat (first | with_reducible assumption | with_reducible refine keep_alloc ?_ | with_reducible refine keep_drew ?_ | with_reducible refine keep_cell (by assumption) ?_ | with_reducible refine bw_alloc ?_ | with_reducible refine bw_drew ?_ | with_reducible refine bw_call (by assumption) ?_))⟩
          · rw [hr] at KR
            have hM : makeStr e a g D = frStr e a g D := by unfold makeStr; rw [if_pos hr]
            rw [hM] at KM0
            have KM := Lib.hid KM0
            have KF := Lib.hid (fun W => refMake_any e a g D W he ha hg (by omega))
            clear KM0 hr hM he ha hg hLs hl0 hlen
            generalize frStr e a g D = Z at *
            go_wp2_with fail
            refine (KR.out _).mono ?_
            rintro x w1 ⟨rfl, hb1⟩
            have r0 := keep_cell hb1 p0
            have r1 := keep_cell hb1 p1
            have r2 := keep_cell hb1 p2
            have r3 := keep_cell hb1 p3
            go_wp2_with fail
            refine (KF.out _).mono ?_
            rintro x w2 ⟨rfl, hb2⟩
            go_wp2_with fail
            have hwD : IntKind.i64.wrap (25 + (D.size : Int)) = 25 + (D.size : Int) := by rw [IntKind.wrap_i64]; omega
            refine wp_region_held_drew (S := (fun w' => w'.cell? ⟨w.heap.size, 0, none⟩ = some (.int .i64 e) ∧ w'.cell? ⟨w.heap.size, 1, none⟩ = some (.int .i64 a) ∧ w'.cell? ⟨w.heap.size, 2, none⟩ = some (.int .i64 g) ∧ w'.cell? ⟨w.heap.size, 3, none⟩ = some (.string d) ∧ w'.cell? ⟨w.heap.size + 1, 3, none⟩ = some (.string D) ∧ Below w.heap.size w w')) (by kernel_rfl) ?_ (fun hHeld => ?_)
            · (try dsimp only); (refine ⟨?_, ?_, ?_, ?_, ?_, ?_⟩ <;> (repeat (first | with_reducible assumption | with_reducible refine keep_alloc ?_ | with_reducible refine keep_drew ?_ | with_reducible refine keep_cell (by assumption) ?_ | with_reducible refine bw_alloc ?_ | with_reducible refine bw_drew ?_ | with_reducible refine bw_call (by assumption) ?_)))
            refine wpAnyH_take (i := 0) (oi := { dst := some 44, op := Op.load 23 (Operand.tmp 2), type := 23, pos := "law.go:42", after := #[], guard := none }) (v := ?_) rfl (by kernel_rfl) (by kernel_rfl) (by kernel_rfl) (fun _ _ _ h => h) (Or.inl ⟨by rfl, ?_⟩) (by assumption) ?_
            rotate_left 1
            · (intro w' hSw; (try dsimp only at hSw); go_simp; try (with_reducible rfl))
            try simp only [Act.put, List.setIfInBounds_toArray, List.set_cons_zero, List.set_cons_succ]
            refine wpAnyH_take (i := 1) (oi := { dst := some 45, op := Op.move (Operand.tmp 1), type := 24, pos := "law.go:42", after := #[], guard := none }) (v := ?_) rfl (by kernel_rfl) (by kernel_rfl) (by kernel_rfl) (fun _ _ _ h => h) (Or.inl ⟨by rfl, ?_⟩) (by assumption) ?_
            rotate_left 1
            · (intro w' hSw; (try dsimp only at hSw); go_simp; try (with_reducible rfl))
            try simp only [Act.put, List.setIfInBounds_toArray, List.set_cons_zero, List.set_cons_succ]
            refine wpAnyH_take (i := 3) (oi := { dst := some 47, op := Op.move (Operand.tmp 7), type := 9, pos := "law.go:42", after := #[], guard := none }) (v := ?_) rfl (by kernel_rfl) (by kernel_rfl) (by kernel_rfl) (fun _ _ _ h => h) (Or.inl ⟨by rfl, ?_⟩) (by assumption) ?_
            rotate_left 1
            · (intro w' hSw; (try dsimp only at hSw); go_simp; try (with_reducible rfl))
            try simp only [Act.put, List.setIfInBounds_toArray, List.set_cons_zero, List.set_cons_succ]
            refine wpAnyH_ready (rs := [2]) (by kernel_rfl) (by simp) ?_
            refine AllReadyH.cons rfl (fun K hK => ?_) AllReadyH.nil
            go_simp
            go_wp2_with (go_at_call 11; refine (KM.out _ ?_).mono ?_; ((repeat (first | with_reducible assumption | with_reducible refine keep_alloc ?_ | with_reducible refine keep_drew ?_ | with_reducible refine keep_cell (by assumption) ?_ | with_reducible refine bw_alloc ?_ | with_reducible refine bw_drew ?_ | with_reducible refine bw_call (by assumption) ?_))); rintro x w3 ⟨rfl, hb3⟩)
            refine hK.out _ _ ?_ (fun hHeld => ?_)
            · (try dsimp only); (refine ⟨?_, ?_, ?_, ?_, ?_, ?_⟩ <;> (repeat (first | with_reducible assumption | with_reducible refine keep_alloc ?_ | with_reducible refine keep_drew ?_ | with_reducible refine keep_cell (by assumption) ?_ | with_reducible refine bw_alloc ?_ | with_reducible refine bw_drew ?_ | with_reducible refine bw_call (by assumption) ?_)))
            clear hK K
            refine wpAnyH_take (i := 4) (oi := { dst := some 48, op := Op.binOp BinOp.eql 9 (Operand.tmp 46) (Operand.tmp 47) 9, type := 4, pos := "law.go:42", after := #[{ on := 2, ground := Ground.data }, { on := 3, ground := Ground.data }], guard := none }) (v := ?_) rfl (by kernel_rfl) (by kernel_rfl) (by kernel_rfl) (fun _ _ _ h => h) (Or.inl ⟨by rfl, ?_⟩) (by assumption) ?_
            rotate_left 1
            · (intro w' hSw; (try dsimp only at hSw); go_simp; try (with_reducible rfl))
            try simp only [Act.put, List.setIfInBounds_toArray, List.set_cons_zero, List.set_cons_succ]
            refine wpAnyH_take (i := 5) (oi := { dst := some 49, op := Op.move (Operand.tmp 48), type := 4, pos := "law.go:42", after := #[{ on := 4, ground := Ground.data }, { on := 2, ground := Ground.chain }], guard := none }) (v := ?_) rfl (by kernel_rfl) (by kernel_rfl) (by kernel_rfl) (fun _ _ _ h => h) (Or.inl ⟨by rfl, ?_⟩) (by assumption) ?_
            rotate_left 1
            · (intro w' hSw; (try dsimp only at hSw); go_simp; try (with_reducible rfl))
            try simp only [Act.put, List.setIfInBounds_toArray, List.set_cons_zero, List.set_cons_succ]
            refine wpAnyH_take (i := 6) (oi := { dst := some 50, op := Op.fieldAddr 23 (Operand.tmp 2) 3, type := 0, pos := "law.go:42", after := #[{ on := 5, ground := Ground.guard }], guard := some (5, true) }) (v := ?_) rfl (by kernel_rfl) (by kernel_rfl) (by kernel_rfl) (fun _ _ _ h => h) (Or.inl ⟨by rfl, ?_⟩) (by assumption) ?_
            rotate_left 1
            · (intro w' hSw; (try dsimp only at hSw); go_simp; try (with_reducible rfl))
            try simp only [Act.put, List.setIfInBounds_toArray, List.set_cons_zero, List.set_cons_succ]
            refine wpAnyH_take (i := 7) (oi := { dst := some 51, op := Op.load 9 (Operand.tmp 50), type := 9, pos := "law.go:42", after := #[{ on := 6, ground := Ground.data }, { on := 5, ground := Ground.guard }], guard := some (5, true) }) (v := ?_) rfl (by kernel_rfl) (by kernel_rfl) (by kernel_rfl) (fun _ _ _ h => h) (Or.inl ⟨by rfl, ?_⟩) (by assumption) ?_
            rotate_left 1
            · (intro w' hSw; (try dsimp only at hSw); go_simp; try (with_reducible rfl))
            try simp only [Act.put, List.setIfInBounds_toArray, List.set_cons_zero, List.set_cons_succ]
            refine wpAnyH_take (i := 9) (oi := { dst := some 53, op := Op.move (Operand.tmp 1), type := 24, pos := "law.go:42", after := #[{ on := 5, ground := Ground.guard }], guard := some (5, true) }) (v := ?_) rfl (by kernel_rfl) (by kernel_rfl) (by kernel_rfl) (fun _ _ _ h => h) (Or.inl ⟨by rfl, ?_⟩) (by assumption) ?_
            rotate_left 1
            · (intro w' hSw; (try dsimp only at hSw); go_simp; try (with_reducible rfl))
            try simp only [Act.put, List.setIfInBounds_toArray, List.set_cons_zero, List.set_cons_succ]
            refine wpAnyH_take (i := 12) (oi := { dst := some 56, op := Op.fieldAddr 23 (Operand.tmp 5) 3, type := 0, pos := "law.go:42", after := #[{ on := 5, ground := Ground.guard }], guard := some (5, true) }) (v := ?_) rfl (by kernel_rfl) (by kernel_rfl) (by kernel_rfl) (fun _ _ _ h => h) (Or.inl ⟨by rfl, ?_⟩) (by assumption) ?_
            rotate_left 1
            · (intro w' hSw; (try dsimp only at hSw); go_simp; try (with_reducible rfl))
            try simp only [Act.put, List.setIfInBounds_toArray, List.set_cons_zero, List.set_cons_succ]
            refine wpAnyH_take (i := 13) (oi := { dst := some 57, op := Op.load 9 (Operand.tmp 56), type := 9, pos := "law.go:42", after := #[{ on := 12, ground := Ground.data }, { on := 5, ground := Ground.guard }], guard := some (5, true) }) (v := ?_) rfl (by kernel_rfl) (by kernel_rfl) (by kernel_rfl) (fun _ _ _ h => h) (Or.inl ⟨by rfl, ?_⟩) (by assumption) ?_
            rotate_left 1
            · (intro w' hSw; (try dsimp only at hSw); go_simp; try (with_reducible rfl))
            try simp only [Act.put, List.setIfInBounds_toArray, List.set_cons_zero, List.set_cons_succ]
            refine wpAnyH_take (i := 14) (oi := { dst := some 58, op := Op.call { callee := Callee.builtin Builtin.len, args := #[Operand.tmp 57], argTypes := #[9] }, type := 3, pos := "law.go:42", after := #[{ on := 13, ground := Ground.data }, { on := 5, ground := Ground.guard }], guard := some (5, true) }) (v := ?_) rfl (by kernel_rfl) (by kernel_rfl) (by kernel_rfl) (fun _ _ _ h => h) (Or.inl ⟨by rfl, ?_⟩) (by assumption) ?_
            rotate_left 1
            · (intro w' hSw; (try dsimp only at hSw); go_simp; try (with_reducible rfl))
            try simp only [Act.put, List.setIfInBounds_toArray, List.set_cons_zero, List.set_cons_succ]
            refine wpAnyH_take (i := 15) (oi := { dst := some 59, op := Op.binOp BinOp.add 3 (Operand.const (Value.int IntKind.i64 25)) (Operand.tmp 58) 3, type := 3, pos := "law.go:42", after := #[{ on := 14, ground := Ground.data }, { on := 5, ground := Ground.guard }], guard := some (5, true) }) (v := ?_) rfl (by kernel_rfl) (by kernel_rfl) (by kernel_rfl) (fun _ _ _ h => h) (Or.inl ⟨by rfl, ?_⟩) (by assumption) ?_
            rotate_left 1
            · (intro w' hSw; (try dsimp only at hSw); go_simp; try (with_reducible rfl))
            try simp only [Act.put, List.setIfInBounds_toArray, List.set_cons_zero, List.set_cons_succ]
            refine wpAnyH_ready (rs := [8]) (by kernel_rfl) (by simp) ?_
            refine AllReadyH.cons rfl (fun K hK => ?_) AllReadyH.nil
            go_simp
            refine hK.out _ _ ?_ (fun hHeld => ?_)
            · (try dsimp only); (refine ⟨?_, ?_, ?_, ?_, ?_, ?_⟩ <;> (repeat (first | with_reducible assumption | with_reducible refine keep_alloc ?_ | with_reducible refine keep_drew ?_ | with_reducible refine keep_cell (by assumption) ?_ | with_reducible refine bw_alloc ?_ | with_reducible refine bw_drew ?_ | with_reducible refine bw_call (by assumption) ?_)))
            clear hK K
            obtain ⟨a', c', W', hrun, hs, hbA⟩ := append_more d sa ss cap w3 (by omega) (HA.out.below (by (repeat (first | with_reducible assumption | with_reducible refine keep_alloc ?_ | with_reducible refine keep_drew ?_ | with_reducible refine keep_cell (by assumption) ?_ | with_reducible refine bw_alloc ?_ | with_reducible refine bw_drew ?_ | with_reducible refine bw_call (by assumption) ?_))))
            refine wpAnyH_ready (rs := [10]) (by kernel_rfl) (by simp) ?_
            refine AllReadyH.cons rfl (fun K hK => ?_) AllReadyH.nil
            rw [if_pos (by rfl)]
            refine wp_append_run (Operand.tmp 52) (Operand.tmp 53) 24 rfl _ _ _ _ rfl rfl hrun ?_
            refine hK.out _ _ ?_ (fun hHeld => ?_)
            · (try dsimp only); (refine ⟨?_, ?_, ?_, ?_, ?_, ?_⟩ <;> (repeat (first | with_reducible assumption | with_reducible refine keep_alloc ?_ | with_reducible refine keep_drew ?_ | with_reducible refine keep_cell (by assumption) ?_ | with_reducible refine bw_alloc ?_ | with_reducible refine bw_drew ?_ | with_reducible refine bw_call (by assumption) ?_)))
            clear hK K
            try simp only [Act.put, List.setIfInBounds_toArray]
            refine wpAnyH_ready (rs := [11]) (by kernel_rfl) (by simp) ?_
            refine AllReadyH.cons rfl (fun K hK => ?_) AllReadyH.nil
            go_simp
            go_wp2_with (go_at_call 12; refine (KS.out _ _ _ hs).mono ?_; rintro x w4 ⟨rfl, rfl⟩)
            refine hK.out _ _ ?_ (fun hHeld => ?_)
            · (try dsimp only); (refine ⟨?_, ?_, ?_, ?_, ?_, ?_⟩ <;> (repeat (first | with_reducible assumption | with_reducible refine keep_alloc ?_ | with_reducible refine keep_drew ?_ | with_reducible refine keep_cell (by assumption) ?_ | with_reducible refine bw_alloc ?_ | with_reducible refine bw_drew ?_ | with_reducible refine bw_call (by assumption) ?_)))
            clear hK K
            clear hrun hs KS
            refine wpAnyH_take (i := 16) (oi := { dst := some 60, op := Op.binOp BinOp.eql 3 (Operand.tmp 55) (Operand.tmp 59) 3, type := 4, pos := "law.go:42", after := #[{ on := 11, ground := Ground.data }, { on := 15, ground := Ground.data }, { on := 5, ground := Ground.guard }], guard := some (5, true) }) (v := ?_) rfl (by kernel_rfl) (by kernel_rfl) (by kernel_rfl) (fun _ _ _ h => h) (Or.inl ⟨by rfl, ?_⟩) (by assumption) ?_
            rotate_left 1
            · (intro w' hSw; (try dsimp only at hSw); go_simp; try (with_reducible rfl))
            try simp only [Act.put, List.setIfInBounds_toArray, List.set_cons_zero, List.set_cons_succ]
            refine wpAnyH_take (i := 17) (oi := { dst := some 61, op := Op.pick (Operand.tmp 49) (Operand.tmp 60) (Operand.const (Value.bool false)), type := 4, pos := "law.go:42", after := #[{ on := 5, ground := Ground.data }, { on := 16, ground := Ground.data }], guard := none }) (v := ?_) rfl (by kernel_rfl) (by kernel_rfl) (by kernel_rfl) (fun _ _ _ h => h) (Or.inl ⟨by rfl, ?_⟩) (by assumption) ?_
            rotate_left 1
            · (intro w' hSw; (try dsimp only at hSw); go_simp; try (with_reducible rfl))
            try simp only [Act.put, List.setIfInBounds_toArray, List.set_cons_zero, List.set_cons_succ]
            refine wpAnyH_take (i := 18) (oi := { dst := some 62, op := Op.move (Operand.tmp 61), type := 4, pos := "law.go:42", after := #[{ on := 17, ground := Ground.data }, { on := 11, ground := Ground.chain }], guard := none }) (v := ?_) rfl (by kernel_rfl) (by kernel_rfl) (by kernel_rfl) (fun _ _ _ h => h) (Or.inl ⟨by rfl, ?_⟩) (by assumption) ?_
            rotate_left 1
            · (intro w' hSw; (try dsimp only at hSw); go_simp; try (with_reducible rfl))
            try simp only [Act.put, List.setIfInBounds_toArray, List.set_cons_zero, List.set_cons_succ]
            refine wpAnyH_ready (rs := [19]) (by kernel_rfl) (by simp) ?_
            refine AllReadyH.cons rfl (fun K hK => ?_) AllReadyH.nil
            go_simp
            go_wp2_with (go_at_call 8; refine (KB.out _ ?_).mono ?_; ((repeat (first | with_reducible assumption | with_reducible refine keep_alloc ?_ | with_reducible refine keep_drew ?_ | with_reducible refine keep_cell (by assumption) ?_ | with_reducible refine bw_alloc ?_ | with_reducible refine bw_drew ?_ | with_reducible refine bw_call (by assumption) ?_))); rintro x w5 ⟨rfl, hb5⟩)
            refine hK.out _ _ ?_ (fun hHeld => ?_)
            · (try dsimp only); (refine ⟨?_, ?_, ?_, ?_, ?_, ?_⟩ <;> (repeat (first | with_reducible assumption | with_reducible refine keep_alloc ?_ | with_reducible refine keep_drew ?_ | with_reducible refine keep_cell (by assumption) ?_ | with_reducible refine bw_alloc ?_ | with_reducible refine bw_drew ?_ | with_reducible refine bw_call (by assumption) ?_)))
            clear hK K
            refine wpAnyH_take (i := 20) (oi := { dst := some 64, op := Op.pick (Operand.tmp 62) (Operand.tmp 63) (Operand.const (Value.bool false)), type := 4, pos := "law.go:42", after := #[{ on := 18, ground := Ground.data }, { on := 19, ground := Ground.data }], guard := none }) (v := ?_) rfl (by kernel_rfl) (by kernel_rfl) (by kernel_rfl) (fun _ _ _ h => h) (Or.inl ⟨by rfl, ?_⟩) (by assumption) ?_
            rotate_left 1
            · (intro w' hSw; (try dsimp only at hSw); go_simp; try (with_reducible rfl))
            try simp only [Act.put, List.setIfInBounds_toArray, List.set_cons_zero, List.set_cons_succ]
            refine wpAnyH_take (i := 21) (oi := { dst := some 4, op := Op.assign (Operand.tmp 64), type := 4, pos := "law.go:42", after := #[{ on := 20, ground := Ground.data }, { on := 19, ground := Ground.chain }, { on := 0, ground := Ground.phase }, { on := 1, ground := Ground.phase }, { on := 2, ground := Ground.phase }, { on := 3, ground := Ground.phase }, { on := 4, ground := Ground.phase }, { on := 5, ground := Ground.phase }, { on := 6, ground := Ground.phase }, { on := 7, ground := Ground.phase }, { on := 8, ground := Ground.phase }, { on := 9, ground := Ground.phase }, { on := 10, ground := Ground.phase }, { on := 11, ground := Ground.phase }, { on := 12, ground := Ground.phase }, { on := 13, ground := Ground.phase }, { on := 14, ground := Ground.phase }, { on := 15, ground := Ground.phase }, { on := 16, ground := Ground.phase }, { on := 17, ground := Ground.phase }, { on := 18, ground := Ground.phase }, { on := 19, ground := Ground.phase }, { on := 20, ground := Ground.phase }], guard := none }) (v := ?_) rfl (by kernel_rfl) (by kernel_rfl) (by kernel_rfl) (fun _ _ _ h => h) (Or.inl ⟨by rfl, ?_⟩) (by assumption) ?_
            rotate_left 1
            · (intro w' hSw; (try dsimp only at hSw); go_simp; try (with_reducible rfl))
            try simp only [Act.put, List.setIfInBounds_toArray, List.set_cons_zero, List.set_cons_succ]
            refine wpAnyH_done (by kernel_rfl) ?_ _
            go_wp2
            go_ret
            exact ⟨rfl, by (repeat (first | with_reducible assumption | with_reducible refine keep_alloc ?_ | with_reducible refine keep_drew ?_ | with_reducible refine keep_cell (by assumption) ?_ | with_reducible refine bw_alloc ?_ | with_reducible refine bw_drew ?_ | with_reducible refine bw_call (by assumption) ?_))⟩
end Go.Proofs.YtpfgdmjgeelobaaDoor
