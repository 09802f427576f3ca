/-
  A TABLE OF LOCKS: Ask, of one that holds nothing of the key: it comes to hold it; it must wait.
-/
import Derived.Test.YtjojempjmpaaaaaLkm3
namespace Go.Proofs.Ytjojempjmpaaaaa
open Go.RowKit
section
variable {B : Nat} {W X : World} {T ml mh mw n : Nat} {s : Lk} {k : ByteArray} {b : Bool} {o : Int}
set_option maxRecDepth 100000 in
set_option maxHeartbeats 4000000 in
theorem ask_hold (h : LkAt B W T ml mh mw n s) (ho : 0 ≤ o) (hwf : (Lit.int .i64 o).wf = true) (hs : k.size ≤ 1000) (hw : s.wt o = none) (hh : s.hd o k = none) (hn : n ≤ 100000) (hq : s.q 1 k ++ s.q 2 k = []) (hfree : freeB s.con ⟨k, b, o⟩ (s.q 0 k) = true) :
    Calls Try.prog 12 #[.pointer (some ⟨T, 0, none⟩), .int .i64 o, .agg #[.string k, .bool b]] W (AskH B T ml mh mw n s k b o W) := by
  have hba : Below W.heap.size W (W.alloc (.cells #[.string k, .bool b] 40)) := (Below.refl _ _).alloc (Nat.le_refl _) _
  have HA := Lib.hid (h.below hba)
  have c0 : (W.alloc (.cells #[.string k, .bool b] 40)).cell? ⟨W.heap.size, 0, none⟩ = some (.string k) := new_cell rfl rfl
  have c1 : (W.alloc (.cells #[.string k, .bool b] 40)).cell? ⟨W.heap.size, 1, none⟩ = some (.bool b) := new_cell rfl rfl
  have HBa := Lib.hid (hba.mono h.lts)
  have hCml : W.heap.size ≠ ml := by have := h.m0.lt; omega
  have hlt := h.lts
  have hYs : (W.alloc (.cells #[.string k, .bool b] 40)).heap.size = W.heap.size + 1 := World.size_alloc _ _
  generalize hY : W.alloc (.cells #[.string k, .bool b] 40) = Y at *
  have l2 := HA.out.m2.look waitsMap o hwf
  rw [hw] at l2
  have l2 : (Instr.lookup 58 (.map (some mw)) (.int .i64 o) false).run Try.prog Y = .ok (.pointer none) Y := l2
  have t2 := HA.out.t2
  have HD := Lib.hid (HA.out.below (Below.refl _ _).drew)
  have hbd : Below Y.heap.size Y Y.drew := (Below.refl _ _).drew
  have d0 := keep_cell hbd c0
  have e1 := HD.out.t1
  have l1 := HD.out.m1.look heldMap o hwf
  have hlook : ∃ v, (Instr.lookup 57 (.map (some mh)) (.int .i64 o) false).run Try.prog Y.drew = .ok v Y.drew ∧ (Instr.lookup 73 v (.string k) false).run Try.prog Y.drew = .ok (.pointer none) Y.drew := by
    cases hm : s.hm o with
    | none => rw [hm] at l1; exact ⟨_, l1, look_nil_w _ _ (by unfold maxLen; omega)⟩
    | some m =>
      rw [hm] at l1
      have l2 := (HD.out.md o m hm).look waiterMap k (show k.size ≤ maxLen by unfold maxLen; omega)
      rw [hh] at l2
      exact ⟨_, l1, l2⟩
  obtain ⟨v, l4, l5⟩ := hlook
  have hbd2 : Below Y.heap.size Y Y.drew.drew := (Below.refl _ _).drew.drew
  have HE := Lib.hid (HA.out.below hbd2)
  have f0 := keep_cell hbd2 c0
  have f1 := keep_cell hbd2 c1
  have HBe := Lib.hid (HBa.out.trans (hbd2.mono HA.out.lts))
  have hE2 : Y.drew.drew.heap.size = Y.heap.size := rfl
  generalize hW2 : Y.drew.drew = W2 at *
  generalize hW1 : Y.drew = W1 at *
  have KM := Lib.hid (made_any HA.out)
  have KO := Lib.hid (lockOf_any HE.out k (by unfold maxLen; omega) (by omega) (by unfold maxLen; omega))
  have HH := Lib.hid hh
  have HS := Lib.hid hs
  have HN := Lib.hid hn
  clear h hba hw l1 hbd hbd2
  generalize hC : W.heap.size = C at *
  go_enter Try.func12, Try.ntmps12
  go_upto_region 1 with fail
  go_wp2_with fail
  refine KM.out.mono ?_
  rintro e w1 ⟨rfl, rfl⟩
  go_upto_region 5 with fail
  refine wp_region_any (by kernel_rfl) ?_
  change wpAny _ _ _ _ _ _ _ (World.drew _)
  rw [hW1]
  refine wpAny_rest 0 (by rfl) (by kernel_rfl) ?_
  simp only [List.drop_zero]
  repeat still_step
  refine wpStill_nil ?_
  go_upto_region 6 with fail
  refine wp_region_held_drew (S := fun _ => True) (by kernel_rfl) ?_ (fun hHeld => ?_)
  · (try dsimp only); all_goals trivial
  refine wpAnyH_take (i := 0) (oi := { dst := some 33, op := Op.move (Operand.tmp 7), type := 72, pos := "lock.go:57", after := #[], guard := none }) (v := ?_) rfl (by kernel_rfl) (by kernel_rfl) (by kernel_rfl) (fun _ _ _ h => h) (Or.inl ⟨by rfl, ?_⟩) (by assumption) ?_
  rotate_left 1
  · (intro w' hSw; (try dsimp only at hSw); go_simp; try (with_reducible rfl))
  try simp only [Act.put, List.setIfInBounds_toArray, List.set_cons_zero, List.set_cons_succ]
  refine wpAnyH_take (i := 1) (oi := { dst := some 34, op := Op.binOp BinOp.neq 72 (Operand.tmp 33) (Operand.const (Value.pointer none)) 72, type := 4, pos := "lock.go:57", after := #[{ on := 0, ground := Ground.data }], guard := none }) (v := ?_) rfl (by kernel_rfl) (by kernel_rfl) (by kernel_rfl) (fun _ _ _ h => h) (Or.inl ⟨by rfl, ?_⟩) (by assumption) ?_
  rotate_left 1
  · (intro w' hSw; (try dsimp only at hSw); go_simp; try (with_reducible rfl))
  try simp only [Act.put, List.setIfInBounds_toArray, List.set_cons_zero, List.set_cons_succ]
  refine wpAnyH_take (i := 2) (oi := { dst := some 35, op := Op.move (Operand.tmp 34), type := 4, pos := "lock.go:57", after := #[{ on := 1, ground := Ground.data }], guard := none }) (v := ?_) rfl (by kernel_rfl) (by kernel_rfl) (by kernel_rfl) (fun _ _ _ h => h) (Or.inl ⟨by rfl, ?_⟩) (by assumption) ?_
  rotate_left 1
  · (intro w' hSw; (try dsimp only at hSw); go_simp; try (with_reducible rfl))
  try simp only [Act.put, List.setIfInBounds_toArray, List.set_cons_zero, List.set_cons_succ]
  refine wpAnyH_take (i := 3) (oi := { dst := some 36, op := Op.move (Operand.tmp 7), type := 72, pos := "lock.go:57", after := #[{ on := 2, ground := Ground.guard }], guard := some (2, true) }) (v := undef) rfl (by kernel_rfl) (by kernel_rfl) (by kernel_rfl) (fun _ _ _ h => h) (Or.inr ⟨by rfl, rfl⟩) (by assumption) ?_
  try simp only [Act.put, List.setIfInBounds_toArray, List.set_cons_zero, List.set_cons_succ]
  refine wpAnyH_take (i := 4) (oi := { dst := some 37, op := Op.nilCheck (Operand.tmp 36), type := 0, pos := "lock.go:57", after := #[{ on := 3, ground := Ground.data }, { on := 2, ground := Ground.guard }], guard := some (2, true) }) (v := undef) rfl (by kernel_rfl) (by kernel_rfl) (by kernel_rfl) (fun _ _ _ h => h) (Or.inr ⟨by rfl, rfl⟩) (by assumption) ?_
  try simp only [Act.put, List.setIfInBounds_toArray, List.set_cons_zero, List.set_cons_succ]
  refine wpAnyH_take (i := 5) (oi := { dst := some 38, op := Op.fieldAddr 75 (Operand.tmp 37) 0, type := 0, pos := "lock.go:57", after := #[{ on := 4, ground := Ground.data }, { on := 2, ground := Ground.guard }], guard := some (2, true) }) (v := undef) rfl (by kernel_rfl) (by kernel_rfl) (by kernel_rfl) (fun _ _ _ h => h) (Or.inr ⟨by rfl, rfl⟩) (by assumption) ?_
  try simp only [Act.put, List.setIfInBounds_toArray, List.set_cons_zero, List.set_cons_succ]
  refine wpAnyH_take (i := 6) (oi := { dst := some 39, op := Op.fieldAddr 40 (Operand.tmp 38) 1, type := 0, pos := "lock.go:57", after := #[{ on := 5, ground := Ground.data }, { on := 2, ground := Ground.guard }], guard := some (2, true) }) (v := undef) rfl (by kernel_rfl) (by kernel_rfl) (by kernel_rfl) (fun _ _ _ h => h) (Or.inr ⟨by rfl, rfl⟩) (by assumption) ?_
  try simp only [Act.put, List.setIfInBounds_toArray, List.set_cons_zero, List.set_cons_succ]
  refine wpAnyH_take (i := 7) (oi := { dst := some 40, op := Op.load 4 (Operand.tmp 39), type := 4, pos := "lock.go:57", after := #[{ on := 6, ground := Ground.data }, { on := 2, ground := Ground.guard }], guard := some (2, true) }) (v := undef) rfl (by kernel_rfl) (by kernel_rfl) (by kernel_rfl) (fun _ _ _ h => h) (Or.inr ⟨by rfl, rfl⟩) (by assumption) ?_
  try simp only [Act.put, List.setIfInBounds_toArray, List.set_cons_zero, List.set_cons_succ]
  refine wpAnyH_take (i := 8) (oi := { dst := some 41, op := Op.move (Operand.tmp 40), type := 4, pos := "lock.go:57", after := #[{ on := 7, ground := Ground.data }, { on := 2, ground := Ground.chain }, { on := 2, ground := Ground.guard }], guard := some (2, true) }) (v := undef) rfl (by kernel_rfl) (by kernel_rfl) (by kernel_rfl) (fun _ _ _ h => h) (Or.inr ⟨by rfl, rfl⟩) (by assumption) ?_
  try simp only [Act.put, List.setIfInBounds_toArray, List.set_cons_zero, List.set_cons_succ]
  refine wpAnyH_take (i := 9) (oi := { dst := some 42, op := Op.move (Operand.tmp 7), type := 72, pos := "lock.go:57", after := #[{ on := 8, ground := Ground.guard }], guard := some (8, false) }) (v := undef) rfl (by kernel_rfl) (by kernel_rfl) (by kernel_rfl) (fun _ _ _ h => h) (Or.inr ⟨by rfl, rfl⟩) (by assumption) ?_
  try simp only [Act.put, List.setIfInBounds_toArray, List.set_cons_zero, List.set_cons_succ]
  refine wpAnyH_take (i := 10) (oi := { dst := some 43, op := Op.nilCheck (Operand.tmp 42), type := 0, pos := "lock.go:57", after := #[{ on := 9, ground := Ground.data }, { on := 8, ground := Ground.guard }], guard := some (8, false) }) (v := undef) rfl (by kernel_rfl) (by kernel_rfl) (by kernel_rfl) (fun _ _ _ h => h) (Or.inr ⟨by rfl, rfl⟩) (by assumption) ?_
  try simp only [Act.put, List.setIfInBounds_toArray, List.set_cons_zero, List.set_cons_succ]
  refine wpAnyH_take (i := 11) (oi := { dst := some 44, op := Op.fieldAddr 75 (Operand.tmp 43) 0, type := 0, pos := "lock.go:57", after := #[{ on := 10, ground := Ground.data }, { on := 8, ground := Ground.guard }], guard := some (8, false) }) (v := undef) rfl (by kernel_rfl) (by kernel_rfl) (by kernel_rfl) (fun _ _ _ h => h) (Or.inr ⟨by rfl, rfl⟩) (by assumption) ?_
  try simp only [Act.put, List.setIfInBounds_toArray, List.set_cons_zero, List.set_cons_succ]
  refine wpAnyH_take (i := 12) (oi := { dst := some 45, op := Op.load 40 (Operand.tmp 44), type := 40, pos := "lock.go:57", after := #[{ on := 11, ground := Ground.data }, { on := 8, ground := Ground.guard }], guard := some (8, false) }) (v := undef) rfl (by kernel_rfl) (by kernel_rfl) (by kernel_rfl) (fun _ _ _ h => h) (Or.inr ⟨by rfl, rfl⟩) (by assumption) ?_
  try simp only [Act.put, List.setIfInBounds_toArray, List.set_cons_zero, List.set_cons_succ]
  refine wpAnyH_take (i := 13) (oi := { dst := some 46, op := Op.load 40 (Operand.tmp 5), type := 40, pos := "lock.go:57", after := #[{ on := 8, ground := Ground.guard }], guard := some (8, false) }) (v := undef) rfl (by kernel_rfl) (by kernel_rfl) (by kernel_rfl) (fun _ _ _ h => h) (Or.inr ⟨by rfl, rfl⟩) (by assumption) ?_
  try simp only [Act.put, List.setIfInBounds_toArray, List.set_cons_zero, List.set_cons_succ]
  refine wpAnyH_take (i := 14) (oi := { dst := some 47, op := Op.binOp BinOp.eql 40 (Operand.tmp 45) (Operand.tmp 46) 40, type := 4, pos := "lock.go:57", after := #[{ on := 12, ground := Ground.data }, { on := 13, ground := Ground.data }, { on := 8, ground := Ground.guard }], guard := some (8, false) }) (v := undef) rfl (by kernel_rfl) (by kernel_rfl) (by kernel_rfl) (fun _ _ _ h => h) (Or.inr ⟨by rfl, rfl⟩) (by assumption) ?_
  try simp only [Act.put, List.setIfInBounds_toArray, List.set_cons_zero, List.set_cons_succ]
  refine wpAnyH_take (i := 15) (oi := { dst := some 48, op := Op.pick (Operand.tmp 41) (Operand.const (Value.bool true)) (Operand.tmp 47), type := 4, pos := "lock.go:57", after := #[{ on := 8, ground := Ground.data }, { on := 14, ground := Ground.data }, { on := 2, ground := Ground.guard }], guard := some (2, true) }) (v := undef) rfl (by kernel_rfl) (by kernel_rfl) (by kernel_rfl) (fun _ _ _ h => h) (Or.inr ⟨by rfl, rfl⟩) (by assumption) ?_
  try simp only [Act.put, List.setIfInBounds_toArray, List.set_cons_zero, List.set_cons_succ]
  refine wpAnyH_take (i := 16) (oi := { dst := some 49, op := Op.pick (Operand.tmp 35) (Operand.tmp 48) (Operand.const (Value.bool false)), type := 4, pos := "lock.go:57", after := #[{ on := 2, ground := Ground.data }, { on := 15, ground := Ground.data }], guard := none }) (v := ?_) rfl (by kernel_rfl) (by kernel_rfl) (by kernel_rfl) (fun _ _ _ h => h) (Or.inl ⟨by rfl, ?_⟩) (by assumption) ?_
  rotate_left 1
  · (intro w' hSw; (try dsimp only at hSw); go_simp; try (with_reducible rfl))
  try simp only [Act.put, List.setIfInBounds_toArray, List.set_cons_zero, List.set_cons_succ]
  refine wpAnyH_done (by kernel_rfl) ?_ _
  clear hHeld
  go_upto_region 8 with fail
  change Code.wp _ _ _ _ (World.drew _)
  rw [hW2]
  go_wp2_with fail
  refine KO.out.mono ?_
  rintro e w2 ⟨K, rfl, h2, hb2, hs2, hf2⟩
  have g0 := (World.cell?_of_block (a := ⟨C, 0, none⟩) (hf2 C (by omega) hCml)).trans f0
  have g1 := (World.cell?_of_block (a := ⟨C, 1, none⟩) (hf2 C (by omega) hCml)).trans f1
  have KK := Lib.hid (kept_any k b w2 (by omega))
  clear KO KM hf2
  go_wp2_with fail
  refine KK.out.mono ?_
  rintro e w3 ⟨rfl, hb3⟩
  have hbw : Below w3.heap.size w3 (w3.alloc (.cells #[.string k, .bool b, .int .i64 o, .pointer none, .pointer none] 75)) := (Below.refl _ _).alloc (Nat.le_refl _) _
  have h3 := h2.below hb3
  have A1 : Hid (AskA B W (w3.alloc (.cells #[.string k, .bool b, .int .i64 o, .pointer none, .pointer none] 75)) T ml mh mw n K w3.heap.size s k b o) :=
    ⟨h3.below hbw, ⟨⟨new_cell rfl rfl, new_cell rfl rfl, new_cell rfl rfl⟩, ⟨_, new_cell rfl rfl⟩, ⟨_, new_cell rfl rfl⟩, fun i => World.frozen?_alloc_at _ _ _ _ rfl⟩, fun i k' hi hm => by
      have := (h3.wc i k' _ hi hm).lt
      omega, fun b c e => by
      have := h3.ps.lt (b := b) (c := c) e
      omega, h3.lts, ((HBe.out.trans hb2).trans (hb3.mono h2.lts)).trans (hbw.mono h3.lts)⟩
  clear h2 hb2 hs2 hb3 hbw h3 KK
  go_upto_region 10 with fail
  generalize w3.alloc (.cells #[.string k, .bool b, .int .i64 o, .pointer none, .pointer none] 75) = Z at *
  generalize w3.heap.size = w at *
  have KF := Lib.hid A1.out.first
  rw [hq] at KF
  have KF : Hid (Calls Try.prog 30 #[.pointer (some ⟨K, 0, none⟩)] Z fun e W' => e = .returned (.pointer none) ∧ Z = W') := KF
  go_wp2_with fail
  refine KF.out.mono ?_
  rintro e w4 ⟨rfl, rfl⟩
  have KR := Lib.hid A1.out.free
  rw [hfree] at KR
  go_wp2_with fail
  refine KR.out.mono ?_
  rintro e w4 ⟨rfl, hb4⟩
  have A2 := Lib.hid (A1.out.below hb4)
  have KH := Lib.hid (A2.out.hold HH.out HS.out hwf HN.out)
  have NF := Lib.hid A2.out.nf
  clear A1 A2 KF KR hb4
  go_wp2_with fail
  refine KH.out.mono ?_
  rintro e w5 ⟨rfl, m, h5, hb5⟩
  have HP : Hid (AskH B T ml mh mw n s k b o W (.returned (.int .i64 0)) w5) := ⟨rfl, K, m, w, h5, NF.out, hb5⟩
  clear h5 hb5 KH
  go_wp2
  go_ret
  exact HP.out
set_option maxRecDepth 100000 in
set_option maxHeartbeats 4000000 in
theorem ask_wait (h : LkAt B W T ml mh mw n s) (ho : 0 ≤ o) (hwf : (Lit.int .i64 o).wf = true) (hs : k.size ≤ 1000) (hw : s.wt o = none) (hh : s.hd o k = none) (hn : n ≤ 100000) (hq : s.q 1 k ++ s.q 2 k ≠ []) :
    Calls Try.prog 12 #[.pointer (some ⟨T, 0, none⟩), .int .i64 o, .agg #[.string k, .bool b]] W (AskW B T ml mh mw n s k b o W) := by
  have hba : Below W.heap.size W (W.alloc (.cells #[.string k, .bool b] 40)) := (Below.refl _ _).alloc (Nat.le_refl _) _
  have HA := Lib.hid (h.below hba)
  have c0 : (W.alloc (.cells #[.string k, .bool b] 40)).cell? ⟨W.heap.size, 0, none⟩ = some (.string k) := new_cell rfl rfl
  have c1 : (W.alloc (.cells #[.string k, .bool b] 40)).cell? ⟨W.heap.size, 1, none⟩ = some (.bool b) := new_cell rfl rfl
  have HBa := Lib.hid (hba.mono h.lts)
  have hCml : W.heap.size ≠ ml := by have := h.m0.lt; omega
  have hlt := h.lts
  have hYs : (W.alloc (.cells #[.string k, .bool b] 40)).heap.size = W.heap.size + 1 := World.size_alloc _ _
  generalize hY : W.alloc (.cells #[.string k, .bool b] 40) = Y at *
  have l2 := HA.out.m2.look waitsMap o hwf
  rw [hw] at l2
  have l2 : (Instr.lookup 58 (.map (some mw)) (.int .i64 o) false).run Try.prog Y = .ok (.pointer none) Y := l2
  have t2 := HA.out.t2
  have HD := Lib.hid (HA.out.below (Below.refl _ _).drew)
  have hbd : Below Y.heap.size Y Y.drew := (Below.refl _ _).drew
  have d0 := keep_cell hbd c0
  have e1 := HD.out.t1
  have l1 := HD.out.m1.look heldMap o hwf
  have hlook : ∃ v, (Instr.lookup 57 (.map (some mh)) (.int .i64 o) false).run Try.prog Y.drew = .ok v Y.drew ∧ (Instr.lookup 73 v (.string k) false).run Try.prog Y.drew = .ok (.pointer none) Y.drew := by
    cases hm : s.hm o with
    | none => rw [hm] at l1; exact ⟨_, l1, look_nil_w _ _ (by unfold maxLen; omega)⟩
    | some m =>
      rw [hm] at l1
      have l2 := (HD.out.md o m hm).look waiterMap k (show k.size ≤ maxLen by unfold maxLen; omega)
      rw [hh] at l2
      exact ⟨_, l1, l2⟩
  obtain ⟨v, l4, l5⟩ := hlook
  have hbd2 : Below Y.heap.size Y Y.drew.drew := (Below.refl _ _).drew.drew
  have HE := Lib.hid (HA.out.below hbd2)
  have f0 := keep_cell hbd2 c0
  have f1 := keep_cell hbd2 c1
  have HBe := Lib.hid (HBa.out.trans (hbd2.mono HA.out.lts))
  have hE2 : Y.drew.drew.heap.size = Y.heap.size := rfl
  generalize hW2 : Y.drew.drew = W2 at *
  generalize hW1 : Y.drew = W1 at *
  have KM := Lib.hid (made_any HA.out)
  have KO := Lib.hid (lockOf_any HE.out k (by unfold maxLen; omega) (by omega) (by unfold maxLen; omega))
  have HH := Lib.hid hh
  have HS := Lib.hid hs
  have HN := Lib.hid hn
  clear h hba hw l1 hbd hbd2
  generalize hC : W.heap.size = C at *
  go_enter Try.func12, Try.ntmps12
  go_upto_region 1 with fail
  go_wp2_with fail
  refine KM.out.mono ?_
  rintro e w1 ⟨rfl, rfl⟩
  go_upto_region 5 with fail
  refine wp_region_any (by kernel_rfl) ?_
  change wpAny _ _ _ _ _ _ _ (World.drew _)
  rw [hW1]
  refine wpAny_rest 0 (by rfl) (by kernel_rfl) ?_
  simp only [List.drop_zero]
  repeat still_step
  refine wpStill_nil ?_
  go_upto_region 6 with fail
  refine wp_region_held_drew (S := fun _ => True) (by kernel_rfl) ?_ (fun hHeld => ?_)
  · (try dsimp only); all_goals trivial
  refine wpAnyH_take (i := 0) (oi := { dst := some 33, op := Op.move (Operand.tmp 7), type := 72, pos := "lock.go:57", after := #[], guard := none }) (v := ?_) rfl (by kernel_rfl) (by kernel_rfl) (by kernel_rfl) (fun _ _ _ h => h) (Or.inl ⟨by rfl, ?_⟩) (by assumption) ?_
  rotate_left 1
  · (intro w' hSw; (try dsimp only at hSw); go_simp; try (with_reducible rfl))
  try simp only [Act.put, List.setIfInBounds_toArray, List.set_cons_zero, List.set_cons_succ]
  refine wpAnyH_take (i := 1) (oi := { dst := some 34, op := Op.binOp BinOp.neq 72 (Operand.tmp 33) (Operand.const (Value.pointer none)) 72, type := 4, pos := "lock.go:57", after := #[{ on := 0, ground := Ground.data }], guard := none }) (v := ?_) rfl (by kernel_rfl) (by kernel_rfl) (by kernel_rfl) (fun _ _ _ h => h) (Or.inl ⟨by rfl, ?_⟩) (by assumption) ?_
  rotate_left 1
  · (intro w' hSw; (try dsimp only at hSw); go_simp; try (with_reducible rfl))
  try simp only [Act.put, List.setIfInBounds_toArray, List.set_cons_zero, List.set_cons_succ]
  refine wpAnyH_take (i := 2) (oi := { dst := some 35, op := Op.move (Operand.tmp 34), type := 4, pos := "lock.go:57", after := #[{ on := 1, ground := Ground.data }], guard := none }) (v := ?_) rfl (by kernel_rfl) (by kernel_rfl) (by kernel_rfl) (fun _ _ _ h => h) (Or.inl ⟨by rfl, ?_⟩) (by assumption) ?_
  rotate_left 1
  · (intro w' hSw; (try dsimp only at hSw); go_simp; try (with_reducible rfl))
  try simp only [Act.put, List.setIfInBounds_toArray, List.set_cons_zero, List.set_cons_succ]
  refine wpAnyH_take (i := 3) (oi := { dst := some 36, op := Op.move (Operand.tmp 7), type := 72, pos := "lock.go:57", after := #[{ on := 2, ground := Ground.guard }], guard := some (2, true) }) (v := undef) rfl (by kernel_rfl) (by kernel_rfl) (by kernel_rfl) (fun _ _ _ h => h) (Or.inr ⟨by rfl, rfl⟩) (by assumption) ?_
  try simp only [Act.put, List.setIfInBounds_toArray, List.set_cons_zero, List.set_cons_succ]
  refine wpAnyH_take (i := 4) (oi := { dst := some 37, op := Op.nilCheck (Operand.tmp 36), type := 0, pos := "lock.go:57", after := #[{ on := 3, ground := Ground.data }, { on := 2, ground := Ground.guard }], guard := some (2, true) }) (v := undef) rfl (by kernel_rfl) (by kernel_rfl) (by kernel_rfl) (fun _ _ _ h => h) (Or.inr ⟨by rfl, rfl⟩) (by assumption) ?_
  try simp only [Act.put, List.setIfInBounds_toArray, List.set_cons_zero, List.set_cons_succ]
  refine wpAnyH_take (i := 5) (oi := { dst := some 38, op := Op.fieldAddr 75 (Operand.tmp 37) 0, type := 0, pos := "lock.go:57", after := #[{ on := 4, ground := Ground.data }, { on := 2, ground := Ground.guard }], guard := some (2, true) }) (v := undef) rfl (by kernel_rfl) (by kernel_rfl) (by kernel_rfl) (fun _ _ _ h => h) (Or.inr ⟨by rfl, rfl⟩) (by assumption) ?_
  try simp only [Act.put, List.setIfInBounds_toArray, List.set_cons_zero, List.set_cons_succ]
  refine wpAnyH_take (i := 6) (oi := { dst := some 39, op := Op.fieldAddr 40 (Operand.tmp 38) 1, type := 0, pos := "lock.go:57", after := #[{ on := 5, ground := Ground.data }, { on := 2, ground := Ground.guard }], guard := some (2, true) }) (v := undef) rfl (by kernel_rfl) (by kernel_rfl) (by kernel_rfl) (fun _ _ _ h => h) (Or.inr ⟨by rfl, rfl⟩) (by assumption) ?_
  try simp only [Act.put, List.setIfInBounds_toArray, List.set_cons_zero, List.set_cons_succ]
  refine wpAnyH_take (i := 7) (oi := { dst := some 40, op := Op.load 4 (Operand.tmp 39), type := 4, pos := "lock.go:57", after := #[{ on := 6, ground := Ground.data }, { on := 2, ground := Ground.guard }], guard := some (2, true) }) (v := undef) rfl (by kernel_rfl) (by kernel_rfl) (by kernel_rfl) (fun _ _ _ h => h) (Or.inr ⟨by rfl, rfl⟩) (by assumption) ?_
  try simp only [Act.put, List.setIfInBounds_toArray, List.set_cons_zero, List.set_cons_succ]
  refine wpAnyH_take (i := 8) (oi := { dst := some 41, op := Op.move (Operand.tmp 40), type := 4, pos := "lock.go:57", after := #[{ on := 7, ground := Ground.data }, { on := 2, ground := Ground.chain }, { on := 2, ground := Ground.guard }], guard := some (2, true) }) (v := undef) rfl (by kernel_rfl) (by kernel_rfl) (by kernel_rfl) (fun _ _ _ h => h) (Or.inr ⟨by rfl, rfl⟩) (by assumption) ?_
  try simp only [Act.put, List.setIfInBounds_toArray, List.set_cons_zero, List.set_cons_succ]
  refine wpAnyH_take (i := 9) (oi := { dst := some 42, op := Op.move (Operand.tmp 7), type := 72, pos := "lock.go:57", after := #[{ on := 8, ground := Ground.guard }], guard := some (8, false) }) (v := undef) rfl (by kernel_rfl) (by kernel_rfl) (by kernel_rfl) (fun _ _ _ h => h) (Or.inr ⟨by rfl, rfl⟩) (by assumption) ?_
  try simp only [Act.put, List.setIfInBounds_toArray, List.set_cons_zero, List.set_cons_succ]
  refine wpAnyH_take (i := 10) (oi := { dst := some 43, op := Op.nilCheck (Operand.tmp 42), type := 0, pos := "lock.go:57", after := #[{ on := 9, ground := Ground.data }, { on := 8, ground := Ground.guard }], guard := some (8, false) }) (v := undef) rfl (by kernel_rfl) (by kernel_rfl) (by kernel_rfl) (fun _ _ _ h => h) (Or.inr ⟨by rfl, rfl⟩) (by assumption) ?_
  try simp only [Act.put, List.setIfInBounds_toArray, List.set_cons_zero, List.set_cons_succ]
  refine wpAnyH_take (i := 11) (oi := { dst := some 44, op := Op.fieldAddr 75 (Operand.tmp 43) 0, type := 0, pos := "lock.go:57", after := #[{ on := 10, ground := Ground.data }, { on := 8, ground := Ground.guard }], guard := some (8, false) }) (v := undef) rfl (by kernel_rfl) (by kernel_rfl) (by kernel_rfl) (fun _ _ _ h => h) (Or.inr ⟨by rfl, rfl⟩) (by assumption) ?_
  try simp only [Act.put, List.setIfInBounds_toArray, List.set_cons_zero, List.set_cons_succ]
  refine wpAnyH_take (i := 12) (oi := { dst := some 45, op := Op.load 40 (Operand.tmp 44), type := 40, pos := "lock.go:57", after := #[{ on := 11, ground := Ground.data }, { on := 8, ground := Ground.guard }], guard := some (8, false) }) (v := undef) rfl (by kernel_rfl) (by kernel_rfl) (by kernel_rfl) (fun _ _ _ h => h) (Or.inr ⟨by rfl, rfl⟩) (by assumption) ?_
  try simp only [Act.put, List.setIfInBounds_toArray, List.set_cons_zero, List.set_cons_succ]
  refine wpAnyH_take (i := 13) (oi := { dst := some 46, op := Op.load 40 (Operand.tmp 5), type := 40, pos := "lock.go:57", after := #[{ on := 8, ground := Ground.guard }], guard := some (8, false) }) (v := undef) rfl (by kernel_rfl) (by kernel_rfl) (by kernel_rfl) (fun _ _ _ h => h) (Or.inr ⟨by rfl, rfl⟩) (by assumption) ?_
  try simp only [Act.put, List.setIfInBounds_toArray, List.set_cons_zero, List.set_cons_succ]
  refine wpAnyH_take (i := 14) (oi := { dst := some 47, op := Op.binOp BinOp.eql 40 (Operand.tmp 45) (Operand.tmp 46) 40, type := 4, pos := "lock.go:57", after := #[{ on := 12, ground := Ground.data }, { on := 13, ground := Ground.data }, { on := 8, ground := Ground.guard }], guard := some (8, false) }) (v := undef) rfl (by kernel_rfl) (by kernel_rfl) (by kernel_rfl) (fun _ _ _ h => h) (Or.inr ⟨by rfl, rfl⟩) (by assumption) ?_
  try simp only [Act.put, List.setIfInBounds_toArray, List.set_cons_zero, List.set_cons_succ]
  refine wpAnyH_take (i := 15) (oi := { dst := some 48, op := Op.pick (Operand.tmp 41) (Operand.const (Value.bool true)) (Operand.tmp 47), type := 4, pos := "lock.go:57", after := #[{ on := 8, ground := Ground.data }, { on := 14, ground := Ground.data }, { on := 2, ground := Ground.guard }], guard := some (2, true) }) (v := undef) rfl (by kernel_rfl) (by kernel_rfl) (by kernel_rfl) (fun _ _ _ h => h) (Or.inr ⟨by rfl, rfl⟩) (by assumption) ?_
  try simp only [Act.put, List.setIfInBounds_toArray, List.set_cons_zero, List.set_cons_succ]
  refine wpAnyH_take (i := 16) (oi := { dst := some 49, op := Op.pick (Operand.tmp 35) (Operand.tmp 48) (Operand.const (Value.bool false)), type := 4, pos := "lock.go:57", after := #[{ on := 2, ground := Ground.data }, { on := 15, ground := Ground.data }], guard := none }) (v := ?_) rfl (by kernel_rfl) (by kernel_rfl) (by kernel_rfl) (fun _ _ _ h => h) (Or.inl ⟨by rfl, ?_⟩) (by assumption) ?_
  rotate_left 1
  · (intro w' hSw; (try dsimp only at hSw); go_simp; try (with_reducible rfl))
  try simp only [Act.put, List.setIfInBounds_toArray, List.set_cons_zero, List.set_cons_succ]
  refine wpAnyH_done (by kernel_rfl) ?_ _
  clear hHeld
  go_upto_region 8 with fail
  change Code.wp _ _ _ _ (World.drew _)
  rw [hW2]
  go_wp2_with fail
  refine KO.out.mono ?_
  rintro e w2 ⟨K, rfl, h2, hb2, hs2, hf2⟩
  have g0 := (World.cell?_of_block (a := ⟨C, 0, none⟩) (hf2 C (by omega) hCml)).trans f0
  have g1 := (World.cell?_of_block (a := ⟨C, 1, none⟩) (hf2 C (by omega) hCml)).trans f1
  have KK := Lib.hid (kept_any k b w2 (by omega))
  clear KO KM hf2
  go_wp2_with fail
  refine KK.out.mono ?_
  rintro e w3 ⟨rfl, hb3⟩
  have hbw : Below w3.heap.size w3 (w3.alloc (.cells #[.string k, .bool b, .int .i64 o, .pointer none, .pointer none] 75)) := (Below.refl _ _).alloc (Nat.le_refl _) _
  have h3 := h2.below hb3
  have A1 : Hid (AskA B W (w3.alloc (.cells #[.string k, .bool b, .int .i64 o, .pointer none, .pointer none] 75)) T ml mh mw n K w3.heap.size s k b o) :=
    ⟨h3.below hbw, ⟨⟨new_cell rfl rfl, new_cell rfl rfl, new_cell rfl rfl⟩, ⟨_, new_cell rfl rfl⟩, ⟨_, new_cell rfl rfl⟩, fun i => World.frozen?_alloc_at _ _ _ _ rfl⟩, fun i k' hi hm => by
      have := (h3.wc i k' _ hi hm).lt
      omega, fun b c e => by
      have := h3.ps.lt (b := b) (c := c) e
      omega, h3.lts, ((HBe.out.trans hb2).trans (hb3.mono h2.lts)).trans (hbw.mono h3.lts)⟩
  clear h2 hb2 hs2 hb3 hbw h3 KK
  go_upto_region 10 with fail
  generalize w3.alloc (.cells #[.string k, .bool b, .int .i64 o, .pointer none, .pointer none] 75) = Z at *
  generalize w3.heap.size = w at *
  have KF := Lib.hid A1.out.first
  obtain ⟨z, hz⟩ : ∃ z, (s.q 1 k ++ s.q 2 k).head? = some z := by
    cases e : s.q 1 k ++ s.q 2 k with
    | nil => exact absurd e hq
    | cons z _ => exact ⟨z, rfl⟩
  rw [hz] at KF
  have KF : Hid (Calls Try.prog 30 #[.pointer (some ⟨K, 0, none⟩)] Z fun e W' => e = .returned (.pointer (some ⟨z, 0, none⟩)) ∧ Z = W') := KF
  go_wp2_with fail
  refine KF.out.mono ?_
  rintro e w4 ⟨rfl, rfl⟩
  have A2 := A1
  have KL := Lib.hid (A2.out.line HH.out HS.out hwf)
  clear A1 KF
  go_wp2_with fail
  refine KL.out.mono ?_
  rintro e w5 ⟨rfl, hb5⟩
  have A3 := Lib.hid (A2.out.below hb5)
  have NF := Lib.hid A3.out.nf
  have KP := Lib.hid A3.out.put
  clear A2 KL hb5 A3
  go_wp2_with fail
  refine KP.out.mono ?_
  rintro e w6 ⟨rfl, h6, hb6⟩
  have u2 := h6.t2
  obtain ⟨X, hst, hmX, hgX, hsX⟩ := h6.m2.store waitsMap o hwf w (by have := HN.out; unfold maxLen; omega)
  have hst : (Instr.mapUpdate 58 (.map (some mw)) (.int .i64 o) (.pointer (some ⟨w, 0, none⟩))).run Try.prog w6 = .ok () X := hst
  have h7 := h6.setWait (z := some w) hmX hgX
  have HP : Hid (AskW B T ml mh mw n s k b o W (.returned (.int .i64 10)) X) := ⟨rfl, K, w, h7.mono (Nat.le_succ _), NF.out, hb6.trans (h6.grownB h6.bt.2.2.2 hgX)⟩
  clear h6 hmX hgX hsX h7 hb6 KP
  go_wp2
  go_ret
  exact HP.out
set_option maxRecDepth 100000 in
set_option maxHeartbeats 4000000 in
theorem ask_busy (h : LkAt B W T ml mh mw n s) (ho : 0 ≤ o) (hwf : (Lit.int .i64 o).wf = true) (hs : k.size ≤ 1000) (hw : s.wt o = none) (hh : s.hd o k = none) (hn : n ≤ 100000) (hq : s.q 1 k ++ s.q 2 k = []) (hfree : freeB s.con ⟨k, b, o⟩ (s.q 0 k) = false) :
    Calls Try.prog 12 #[.pointer (some ⟨T, 0, none⟩), .int .i64 o, .agg #[.string k, .bool b]] W (AskW B T ml mh mw n s k b o W) := by
  have hba : Below W.heap.size W (W.alloc (.cells #[.string k, .bool b] 40)) := (Below.refl _ _).alloc (Nat.le_refl _) _
  have HA := Lib.hid (h.below hba)
  have c0 : (W.alloc (.cells #[.string k, .bool b] 40)).cell? ⟨W.heap.size, 0, none⟩ = some (.string k) := new_cell rfl rfl
  have c1 : (W.alloc (.cells #[.string k, .bool b] 40)).cell? ⟨W.heap.size, 1, none⟩ = some (.bool b) := new_cell rfl rfl
  have HBa := Lib.hid (hba.mono h.lts)
  have hCml : W.heap.size ≠ ml := by have := h.m0.lt; omega
  have hlt := h.lts
  have hYs : (W.alloc (.cells #[.string k, .bool b] 40)).heap.size = W.heap.size + 1 := World.size_alloc _ _
  generalize hY : W.alloc (.cells #[.string k, .bool b] 40) = Y at *
  have l2 := HA.out.m2.look waitsMap o hwf
  rw [hw] at l2
  have l2 : (Instr.lookup 58 (.map (some mw)) (.int .i64 o) false).run Try.prog Y = .ok (.pointer none) Y := l2
  have t2 := HA.out.t2
  have HD := Lib.hid (HA.out.below (Below.refl _ _).drew)
  have hbd : Below Y.heap.size Y Y.drew := (Below.refl _ _).drew
  have d0 := keep_cell hbd c0
  have e1 := HD.out.t1
  have l1 := HD.out.m1.look heldMap o hwf
  have hlook : ∃ v, (Instr.lookup 57 (.map (some mh)) (.int .i64 o) false).run Try.prog Y.drew = .ok v Y.drew ∧ (Instr.lookup 73 v (.string k) false).run Try.prog Y.drew = .ok (.pointer none) Y.drew := by
    cases hm : s.hm o with
    | none => rw [hm] at l1; exact ⟨_, l1, look_nil_w _ _ (by unfold maxLen; omega)⟩
    | some m =>
      rw [hm] at l1
      have l2 := (HD.out.md o m hm).look waiterMap k (show k.size ≤ maxLen by unfold maxLen; omega)
      rw [hh] at l2
      exact ⟨_, l1, l2⟩
  obtain ⟨v, l4, l5⟩ := hlook
  have hbd2 : Below Y.heap.size Y Y.drew.drew := (Below.refl _ _).drew.drew
  have HE := Lib.hid (HA.out.below hbd2)
  have f0 := keep_cell hbd2 c0
  have f1 := keep_cell hbd2 c1
  have HBe := Lib.hid (HBa.out.trans (hbd2.mono HA.out.lts))
  have hE2 : Y.drew.drew.heap.size = Y.heap.size := rfl
  generalize hW2 : Y.drew.drew = W2 at *
  generalize hW1 : Y.drew = W1 at *
  have KM := Lib.hid (made_any HA.out)
  have KO := Lib.hid (lockOf_any HE.out k (by unfold maxLen; omega) (by omega) (by unfold maxLen; omega))
  have HH := Lib.hid hh
  have HS := Lib.hid hs
  have HN := Lib.hid hn
  clear h hba hw l1 hbd hbd2
  generalize hC : W.heap.size = C at *
  go_enter Try.func12, Try.ntmps12
  go_upto_region 1 with fail
  go_wp2_with fail
  refine KM.out.mono ?_
  rintro e w1 ⟨rfl, rfl⟩
  go_upto_region 5 with fail
  refine wp_region_any (by kernel_rfl) ?_
  change wpAny _ _ _ _ _ _ _ (World.drew _)
  rw [hW1]
  refine wpAny_rest 0 (by rfl) (by kernel_rfl) ?_
  simp only [List.drop_zero]
  repeat still_step
  refine wpStill_nil ?_
  go_upto_region 6 with fail
  refine wp_region_held_drew (S := fun _ => True) (by kernel_rfl) ?_ (fun hHeld => ?_)
  · (try dsimp only); all_goals trivial
  refine wpAnyH_take (i := 0) (oi := { dst := some 33, op := Op.move (Operand.tmp 7), type := 72, pos := "lock.go:57", after := #[], guard := none }) (v := ?_) rfl (by kernel_rfl) (by kernel_rfl) (by kernel_rfl) (fun _ _ _ h => h) (Or.inl ⟨by rfl, ?_⟩) (by assumption) ?_
  rotate_left 1
  · (intro w' hSw; (try dsimp only at hSw); go_simp; try (with_reducible rfl))
  try simp only [Act.put, List.setIfInBounds_toArray, List.set_cons_zero, List.set_cons_succ]
  refine wpAnyH_take (i := 1) (oi := { dst := some 34, op := Op.binOp BinOp.neq 72 (Operand.tmp 33) (Operand.const (Value.pointer none)) 72, type := 4, pos := "lock.go:57", after := #[{ on := 0, ground := Ground.data }], guard := none }) (v := ?_) rfl (by kernel_rfl) (by kernel_rfl) (by kernel_rfl) (fun _ _ _ h => h) (Or.inl ⟨by rfl, ?_⟩) (by assumption) ?_
  rotate_left 1
  · (intro w' hSw; (try dsimp only at hSw); go_simp; try (with_reducible rfl))
  try simp only [Act.put, List.setIfInBounds_toArray, List.set_cons_zero, List.set_cons_succ]
  refine wpAnyH_take (i := 2) (oi := { dst := some 35, op := Op.move (Operand.tmp 34), type := 4, pos := "lock.go:57", after := #[{ on := 1, ground := Ground.data }], guard := none }) (v := ?_) rfl (by kernel_rfl) (by kernel_rfl) (by kernel_rfl) (fun _ _ _ h => h) (Or.inl ⟨by rfl, ?_⟩) (by assumption) ?_
  rotate_left 1
  · (intro w' hSw; (try dsimp only at hSw); go_simp; try (with_reducible rfl))
  try simp only [Act.put, List.setIfInBounds_toArray, List.set_cons_zero, List.set_cons_succ]
  refine wpAnyH_take (i := 3) (oi := { dst := some 36, op := Op.move (Operand.tmp 7), type := 72, pos := "lock.go:57", after := #[{ on := 2, ground := Ground.guard }], guard := some (2, true) }) (v := undef) rfl (by kernel_rfl) (by kernel_rfl) (by kernel_rfl) (fun _ _ _ h => h) (Or.inr ⟨by rfl, rfl⟩) (by assumption) ?_
  try simp only [Act.put, List.setIfInBounds_toArray, List.set_cons_zero, List.set_cons_succ]
  refine wpAnyH_take (i := 4) (oi := { dst := some 37, op := Op.nilCheck (Operand.tmp 36), type := 0, pos := "lock.go:57", after := #[{ on := 3, ground := Ground.data }, { on := 2, ground := Ground.guard }], guard := some (2, true) }) (v := undef) rfl (by kernel_rfl) (by kernel_rfl) (by kernel_rfl) (fun _ _ _ h => h) (Or.inr ⟨by rfl, rfl⟩) (by assumption) ?_
  try simp only [Act.put, List.setIfInBounds_toArray, List.set_cons_zero, List.set_cons_succ]
  refine wpAnyH_take (i := 5) (oi := { dst := some 38, op := Op.fieldAddr 75 (Operand.tmp 37) 0, type := 0, pos := "lock.go:57", after := #[{ on := 4, ground := Ground.data }, { on := 2, ground := Ground.guard }], guard := some (2, true) }) (v := undef) rfl (by kernel_rfl) (by kernel_rfl) (by kernel_rfl) (fun _ _ _ h => h) (Or.inr ⟨by rfl, rfl⟩) (by assumption) ?_
  try simp only [Act.put, List.setIfInBounds_toArray, List.set_cons_zero, List.set_cons_succ]
  refine wpAnyH_take (i := 6) (oi := { dst := some 39, op := Op.fieldAddr 40 (Operand.tmp 38) 1, type := 0, pos := "lock.go:57", after := #[{ on := 5, ground := Ground.data }, { on := 2, ground := Ground.guard }], guard := some (2, true) }) (v := undef) rfl (by kernel_rfl) (by kernel_rfl) (by kernel_rfl) (fun _ _ _ h => h) (Or.inr ⟨by rfl, rfl⟩) (by assumption) ?_
  try simp only [Act.put, List.setIfInBounds_toArray, List.set_cons_zero, List.set_cons_succ]
  refine wpAnyH_take (i := 7) (oi := { dst := some 40, op := Op.load 4 (Operand.tmp 39), type := 4, pos := "lock.go:57", after := #[{ on := 6, ground := Ground.data }, { on := 2, ground := Ground.guard }], guard := some (2, true) }) (v := undef) rfl (by kernel_rfl) (by kernel_rfl) (by kernel_rfl) (fun _ _ _ h => h) (Or.inr ⟨by rfl, rfl⟩) (by assumption) ?_
  try simp only [Act.put, List.setIfInBounds_toArray, List.set_cons_zero, List.set_cons_succ]
  refine wpAnyH_take (i := 8) (oi := { dst := some 41, op := Op.move (Operand.tmp 40), type := 4, pos := "lock.go:57", after := #[{ on := 7, ground := Ground.data }, { on := 2, ground := Ground.chain }, { on := 2, ground := Ground.guard }], guard := some (2, true) }) (v := undef) rfl (by kernel_rfl) (by kernel_rfl) (by kernel_rfl) (fun _ _ _ h => h) (Or.inr ⟨by rfl, rfl⟩) (by assumption) ?_
  try simp only [Act.put, List.setIfInBounds_toArray, List.set_cons_zero, List.set_cons_succ]
  refine wpAnyH_take (i := 9) (oi := { dst := some 42, op := Op.move (Operand.tmp 7), type := 72, pos := "lock.go:57", after := #[{ on := 8, ground := Ground.guard }], guard := some (8, false) }) (v := undef) rfl (by kernel_rfl) (by kernel_rfl) (by kernel_rfl) (fun _ _ _ h => h) (Or.inr ⟨by rfl, rfl⟩) (by assumption) ?_
  try simp only [Act.put, List.setIfInBounds_toArray, List.set_cons_zero, List.set_cons_succ]
  refine wpAnyH_take (i := 10) (oi := { dst := some 43, op := Op.nilCheck (Operand.tmp 42), type := 0, pos := "lock.go:57", after := #[{ on := 9, ground := Ground.data }, { on := 8, ground := Ground.guard }], guard := some (8, false) }) (v := undef) rfl (by kernel_rfl) (by kernel_rfl) (by kernel_rfl) (fun _ _ _ h => h) (Or.inr ⟨by rfl, rfl⟩) (by assumption) ?_
  try simp only [Act.put, List.setIfInBounds_toArray, List.set_cons_zero, List.set_cons_succ]
  refine wpAnyH_take (i := 11) (oi := { dst := some 44, op := Op.fieldAddr 75 (Operand.tmp 43) 0, type := 0, pos := "lock.go:57", after := #[{ on := 10, ground := Ground.data }, { on := 8, ground := Ground.guard }], guard := some (8, false) }) (v := undef) rfl (by kernel_rfl) (by kernel_rfl) (by kernel_rfl) (fun _ _ _ h => h) (Or.inr ⟨by rfl, rfl⟩) (by assumption) ?_
  try simp only [Act.put, List.setIfInBounds_toArray, List.set_cons_zero, List.set_cons_succ]
  refine wpAnyH_take (i := 12) (oi := { dst := some 45, op := Op.load 40 (Operand.tmp 44), type := 40, pos := "lock.go:57", after := #[{ on := 11, ground := Ground.data }, { on := 8, ground := Ground.guard }], guard := some (8, false) }) (v := undef) rfl (by kernel_rfl) (by kernel_rfl) (by kernel_rfl) (fun _ _ _ h => h) (Or.inr ⟨by rfl, rfl⟩) (by assumption) ?_
  try simp only [Act.put, List.setIfInBounds_toArray, List.set_cons_zero, List.set_cons_succ]
  refine wpAnyH_take (i := 13) (oi := { dst := some 46, op := Op.load 40 (Operand.tmp 5), type := 40, pos := "lock.go:57", after := #[{ on := 8, ground := Ground.guard }], guard := some (8, false) }) (v := undef) rfl (by kernel_rfl) (by kernel_rfl) (by kernel_rfl) (fun _ _ _ h => h) (Or.inr ⟨by rfl, rfl⟩) (by assumption) ?_
  try simp only [Act.put, List.setIfInBounds_toArray, List.set_cons_zero, List.set_cons_succ]
  refine wpAnyH_take (i := 14) (oi := { dst := some 47, op := Op.binOp BinOp.eql 40 (Operand.tmp 45) (Operand.tmp 46) 40, type := 4, pos := "lock.go:57", after := #[{ on := 12, ground := Ground.data }, { on := 13, ground := Ground.data }, { on := 8, ground := Ground.guard }], guard := some (8, false) }) (v := undef) rfl (by kernel_rfl) (by kernel_rfl) (by kernel_rfl) (fun _ _ _ h => h) (Or.inr ⟨by rfl, rfl⟩) (by assumption) ?_
  try simp only [Act.put, List.setIfInBounds_toArray, List.set_cons_zero, List.set_cons_succ]
  refine wpAnyH_take (i := 15) (oi := { dst := some 48, op := Op.pick (Operand.tmp 41) (Operand.const (Value.bool true)) (Operand.tmp 47), type := 4, pos := "lock.go:57", after := #[{ on := 8, ground := Ground.data }, { on := 14, ground := Ground.data }, { on := 2, ground := Ground.guard }], guard := some (2, true) }) (v := undef) rfl (by kernel_rfl) (by kernel_rfl) (by kernel_rfl) (fun _ _ _ h => h) (Or.inr ⟨by rfl, rfl⟩) (by assumption) ?_
  try simp only [Act.put, List.setIfInBounds_toArray, List.set_cons_zero, List.set_cons_succ]
  refine wpAnyH_take (i := 16) (oi := { dst := some 49, op := Op.pick (Operand.tmp 35) (Operand.tmp 48) (Operand.const (Value.bool false)), type := 4, pos := "lock.go:57", after := #[{ on := 2, ground := Ground.data }, { on := 15, ground := Ground.data }], guard := none }) (v := ?_) rfl (by kernel_rfl) (by kernel_rfl) (by kernel_rfl) (fun _ _ _ h => h) (Or.inl ⟨by rfl, ?_⟩) (by assumption) ?_
  rotate_left 1
  · (intro w' hSw; (try dsimp only at hSw); go_simp; try (with_reducible rfl))
  try simp only [Act.put, List.setIfInBounds_toArray, List.set_cons_zero, List.set_cons_succ]
  refine wpAnyH_done (by kernel_rfl) ?_ _
  clear hHeld
  go_upto_region 8 with fail
  change Code.wp _ _ _ _ (World.drew _)
  rw [hW2]
  go_wp2_with fail
  refine KO.out.mono ?_
  rintro e w2 ⟨K, rfl, h2, hb2, hs2, hf2⟩
  have g0 := (World.cell?_of_block (a := ⟨C, 0, none⟩) (hf2 C (by omega) hCml)).trans f0
  have g1 := (World.cell?_of_block (a := ⟨C, 1, none⟩) (hf2 C (by omega) hCml)).trans f1
  have KK := Lib.hid (kept_any k b w2 (by omega))
  clear KO KM hf2
  go_wp2_with fail
  refine KK.out.mono ?_
  rintro e w3 ⟨rfl, hb3⟩
  have hbw : Below w3.heap.size w3 (w3.alloc (.cells #[.string k, .bool b, .int .i64 o, .pointer none, .pointer none] 75)) := (Below.refl _ _).alloc (Nat.le_refl _) _
  have h3 := h2.below hb3
  have A1 : Hid (AskA B W (w3.alloc (.cells #[.string k, .bool b, .int .i64 o, .pointer none, .pointer none] 75)) T ml mh mw n K w3.heap.size s k b o) :=
    ⟨h3.below hbw, ⟨⟨new_cell rfl rfl, new_cell rfl rfl, new_cell rfl rfl⟩, ⟨_, new_cell rfl rfl⟩, ⟨_, new_cell rfl rfl⟩, fun i => World.frozen?_alloc_at _ _ _ _ rfl⟩, fun i k' hi hm => by
      have := (h3.wc i k' _ hi hm).lt
      omega, fun b c e => by
      have := h3.ps.lt (b := b) (c := c) e
      omega, h3.lts, ((HBe.out.trans hb2).trans (hb3.mono h2.lts)).trans (hbw.mono h3.lts)⟩
  clear h2 hb2 hs2 hb3 hbw h3 KK
  go_upto_region 10 with fail
  generalize w3.alloc (.cells #[.string k, .bool b, .int .i64 o, .pointer none, .pointer none] 75) = Z at *
  generalize w3.heap.size = w at *
  have KF := Lib.hid A1.out.first
  rw [hq] at KF
  have KF : Hid (Calls Try.prog 30 #[.pointer (some ⟨K, 0, none⟩)] Z fun e W' => e = .returned (.pointer none) ∧ Z = W') := KF
  go_wp2_with fail
  refine KF.out.mono ?_
  rintro e w4 ⟨rfl, rfl⟩
  have KR := Lib.hid A1.out.free
  rw [hfree] at KR
  go_wp2_with fail
  refine KR.out.mono ?_
  rintro e w4 ⟨rfl, hb4⟩
  have A2 := Lib.hid (A1.out.below hb4)
  clear KR hb4
  have KL := Lib.hid (A2.out.line HH.out HS.out hwf)
  clear A1 KF
  go_wp2_with fail
  refine KL.out.mono ?_
  rintro e w5 ⟨rfl, hb5⟩
  have A3 := Lib.hid (A2.out.below hb5)
  have NF := Lib.hid A3.out.nf
  have KP := Lib.hid A3.out.put
  clear A2 KL hb5 A3
  go_wp2_with fail
  refine KP.out.mono ?_
  rintro e w6 ⟨rfl, h6, hb6⟩
  have u2 := h6.t2
  obtain ⟨X, hst, hmX, hgX, hsX⟩ := h6.m2.store waitsMap o hwf w (by have := HN.out; unfold maxLen; omega)
  have hst : (Instr.mapUpdate 58 (.map (some mw)) (.int .i64 o) (.pointer (some ⟨w, 0, none⟩))).run Try.prog w6 = .ok () X := hst
  have h7 := h6.setWait (z := some w) hmX hgX
  have HP : Hid (AskW B T ml mh mw n s k b o W (.returned (.int .i64 10)) X) := ⟨rfl, K, w, h7.mono (Nat.le_succ _), NF.out, hb6.trans (h6.grownB h6.bt.2.2.2 hgX)⟩
  clear h6 hmX hgX hsX h7 hb6 KP
  go_wp2
  go_ret
  exact HP.out
end
end Go.Proofs.Ytjojempjmpaaaaa
