/-
  A TABLE OF LOCKS: Ask, of one that holds the key.
-/
import Derived.Test.YtjojempjmpaaaaaLkm7
import Derived.Laws.StructEq
namespace Go.Proofs.Ytjojempjmpaaaaa
open Go.RowKit
theorem eq_claim (k : ByteArray) (a b : Bool) (W : World) : (binOp .eql 40 (.agg #[.string k, .bool a]) (.agg #[.string k, .bool b])).run Try.prog W = .ok (.bool (a == b)) W := by
  go_simp
  (repeat' split) <;> simp_all
section
variable {B : Nat} {W X W0 : World} {T ml mh mw n K w h0 : Nat} {s : Lk} {k : ByteArray} {b : Bool} {o : Int}
theorem AskA.line1 (h : AskA B W0 W T ml mh mw n K w s k b o) (hh : s.hd o k = some h0) (hs : k.size ≤ 1000) (hwf : (Lit.int .i64 o).wf = true) : Calls Try.prog 33 #[.pointer (some ⟨T, 0, none⟩), .pointer (some ⟨w, 0, none⟩)] W fun e W' => e = .returned (.pointer (some ⟨K, 2, none⟩)) ∧ Below W.heap.size W W' :=
  line_readers h.t h.f.c lockS_k hh (show k.size ≤ maxLen by unfold maxLen; omega) hwf
theorem AskA.put1 (h : AskA B W0 W T ml mh mw n K w s k b o) : Calls Try.prog 34 #[.pointer (some ⟨K, 2, none⟩), .pointer (some ⟨w, 0, none⟩)] W fun e W' => e = .returned (.tuple #[]) ∧ LkAt B W' T ml mh mw (n + 1) { lockS s k K with q := updQ s.q 1 k (s.q 1 k ++ [w]), con := updC s.con w ⟨k, b, o⟩ } ∧ Below B W0 W' := by
  obtain ⟨v3, e3⟩ := h.f.c3
  obtain ⟨v4, e4⟩ := h.f.c4
  refine (put_any (h.t.qa k K lockS_k 1 (by decide)) (h.nf 1 k (by decide)) (h.t.kx lockS_k h.f.c).symm e3 e4 h.f.fz).mono ?_
  rintro e W' ⟨rfl, hq, hc⟩
  refine ⟨rfl, h.t.putQ (i := 1) (by decide) lockS_k h.f.c h.nf h.np h.bw hq hc, h.be.trans (cf_below hc (fun c i q => ?_) h.t.lts)⟩
  rcases q with ⟨q, _⟩ | ⟨q, _⟩ | ⟨q, _⟩
  · rw [q]; exact h.t.bk k K lockS_k
  · rw [q]; exact h.bw
  · exact h.t.bw 1 k c (by decide) q
/-- What Ask leaves where the owner comes to write what it read. -/
def AskU (B : Nat) (T ml mh mw n h0 : Nat) (s : Lk) (k : ByteArray) (b : Bool) (o : Int) (W : World) (e : Ending) (W' : World) : Prop :=
  e = .returned (.int .i64 0) ∧ ∃ K, LkAt B W' T ml mh mw (n + 3) (upS (lockS s k K) h0 ⟨k, b, o⟩) ∧ Below B W W'
/-- What Ask leaves where it must wait to write what it reads. -/
def AskV (B : Nat) (T ml mh mw n : Nat) (s : Lk) (k : ByteArray) (b : Bool) (o : Int) (W : World) (e : Ending) (W' : World) : Prop :=
  e = .returned (.int .i64 10) ∧ ∃ K w, LkAt B W' T ml mh mw (n + 3) (waitG (lockS s k K) 1 w ⟨k, b, o⟩) ∧ (∀ i k', i < 3 → w ∉ s.q i k') ∧ Below B W W'
set_option maxRecDepth 100000 in
set_option maxHeartbeats 4000000 in
theorem ask_has_w (h : LkAt B W T ml mh mw n s) (hc : LkC s) (ho : 0 ≤ o) (hwf : (Lit.int .i64 o).wf = true) (hs : k.size ≤ 1000) (hw : s.wt o = none) (hh : s.hd o k = some h0) (hn : n ≤ 100000) (hwr : (s.con h0).wr = true) :
    Calls Try.prog 12 #[.pointer (some ⟨T, 0, none⟩), .int .i64 o, .agg #[.string k, .bool b]] W (fun e W' => e = .returned (.int .i64 0) ∧ Below W.heap.size W W') := by
  obtain ⟨hq0, how⟩ := hc.ok.h1 o k h0 hh
  have hck := (hc.ok.ck 0 k h0 (by decide) hq0).1
  have hba : Below W.heap.size W (W.alloc (.cells #[.string k, .bool b] 40)) := (Below.refl _ _).alloc (Nat.le_refl _) _
  have HA := Lib.hid (h.below hba)
  have c0 : (W.alloc (.cells #[.string k, .bool b] 40)).cell? ⟨W.heap.size, 0, none⟩ = some (.string k) := new_cell rfl rfl
  have c1 : (W.alloc (.cells #[.string k, .bool b] 40)).cell? ⟨W.heap.size, 1, none⟩ = some (.bool b) := new_cell rfl rfl
  have HBa := Lib.hid (hba.mono h.lts)
  have hCml : W.heap.size ≠ ml := by have := h.m0.lt; omega
  have hlt := h.lts
  have hYs : (W.alloc (.cells #[.string k, .bool b] 40)).heap.size = W.heap.size + 1 := World.size_alloc _ _
  generalize hY : W.alloc (.cells #[.string k, .bool b] 40) = Y at *
  have l2 := HA.out.m2.look waitsMap o hwf
  rw [hw] at l2
  replace l2 : (Instr.lookup 58 (.map (some mw)) (.int .i64 o) false).run Try.prog Y = .ok (.pointer none) Y := l2
  have t2 := HA.out.t2
  have HD := Lib.hid (HA.out.below (Below.refl _ _).drew)
  have hbd : Below Y.heap.size Y Y.drew := (Below.refl _ _).drew
  have d0 := keep_cell hbd c0
  have e1 := HD.out.t1
  have l1 := HD.out.m1.look heldMap o hwf
  have hlook : ∃ v, (Instr.lookup 57 (.map (some mh)) (.int .i64 o) false).run Try.prog Y.drew = .ok v Y.drew ∧ (Instr.lookup 73 v (.string k) false).run Try.prog Y.drew = .ok (.pointer (some ⟨h0, 0, none⟩)) Y.drew := by
    cases hm : s.hm o with
    | none => exact absurd hh (by rw [h.hn o hm k]; simp)
    | some m =>
      rw [hm] at l1
      have l2 := (HD.out.md o m hm).look waiterMap k (show k.size ≤ maxLen by unfold maxLen; omega)
      rw [hh] at l2
      exact ⟨_, l1, l2⟩
  obtain ⟨v, l4, l5⟩ := hlook
  have hbd2 : Below Y.heap.size Y Y.drew.drew := (Below.refl _ _).drew.drew
  have HE := Lib.hid (HA.out.below hbd2)
  have f0 := keep_cell hbd2 c0
  have f1 := keep_cell hbd2 c1
  have HBe := Lib.hid (HBa.out.trans (hbd2.mono HA.out.lts))
  have hE2 : Y.drew.drew.heap.size = Y.heap.size := rfl
  have zz := HE.out.wc 0 k h0 (by decide) hq0
  have z0 := zz.c0
  have z1 := zz.c1
  rw [hck] at z0
  generalize hW2 : Y.drew.drew = W2 at *
  generalize hW1 : Y.drew = W1 at *
  have KM := Lib.hid (made_any HA.out)
  have HC := Lib.hid hc
  have HH := Lib.hid hh
  have HS := Lib.hid hs
  have HN := Lib.hid hn
  have HQ0 := Lib.hid hq0
  have hEq := eq_claim k
  rw [hwr] at z1
  have HBR : Hid (Below W.heap.size W W2) := (hba.trans (hbd2.mono (by omega)))
  clear hwr hbd2
  clear h hba hw l1 hbd zz hck how hc hh hs hn hq0
  generalize hC : W.heap.size = C at *
  go_enter Try.func12, Try.ntmps12
  go_upto_region 1 with fail
  go_wp2_with fail
  refine KM.out.mono ?_
  rintro e w1 ⟨rfl, rfl⟩
  go_upto_region 5 with fail
  refine wp_region_any (by kernel_rfl) ?_
  change wpAny _ _ _ _ _ _ _ (World.drew _)
  rw [hW1]
  refine wpAny_rest 0 (by rfl) (by kernel_rfl) ?_
  simp only [List.drop_zero]
  repeat still_step
  refine wpStill_nil ?_
  go_upto_region 6 with fail
  refine wp_region_held_drew (S := fun w' => w'.cell? ⟨h0, 0, none⟩ = some (.string k) ∧ w'.cell? ⟨h0, 1, none⟩ = some (.bool true) ∧ w'.cell? ⟨C, 0, none⟩ = some (.string k) ∧ w'.cell? ⟨C, 1, none⟩ = some (.bool b)) (by kernel_rfl) ?_ (fun hHeld => ?_)
  · (try dsimp only); (try rw [hW2]); exact ⟨z0, z1, f0, f1⟩
  refine wpAnyH_take (i := 0) (oi := { dst := some 33, op := Op.move (Operand.tmp 7), type := 72, pos := "lock.go:57", after := #[], guard := none }) (v := ?_) rfl (by kernel_rfl) (by kernel_rfl) (by kernel_rfl) (fun _ _ _ h => h) (Or.inl ⟨by rfl, ?_⟩) (by assumption) ?_
  rotate_left 1
  · (intro w' hSw; (try obtain ⟨s0, s1, s2, s3⟩ := hSw); go_simp; try (with_reducible rfl))
  try simp only [Act.put, List.setIfInBounds_toArray, List.set_cons_zero, List.set_cons_succ]
  refine wpAnyH_take (i := 1) (oi := { dst := some 34, op := Op.binOp BinOp.neq 72 (Operand.tmp 33) (Operand.const (Value.pointer none)) 72, type := 4, pos := "lock.go:57", after := #[{ on := 0, ground := Ground.data }], guard := none }) (v := ?_) rfl (by kernel_rfl) (by kernel_rfl) (by kernel_rfl) (fun _ _ _ h => h) (Or.inl ⟨by rfl, ?_⟩) (by assumption) ?_
  rotate_left 1
  · (intro w' hSw; (try obtain ⟨s0, s1, s2, s3⟩ := hSw); go_simp; try (with_reducible rfl))
  try simp only [Act.put, List.setIfInBounds_toArray, List.set_cons_zero, List.set_cons_succ]
  refine wpAnyH_take (i := 2) (oi := { dst := some 35, op := Op.move (Operand.tmp 34), type := 4, pos := "lock.go:57", after := #[{ on := 1, ground := Ground.data }], guard := none }) (v := ?_) rfl (by kernel_rfl) (by kernel_rfl) (by kernel_rfl) (fun _ _ _ h => h) (Or.inl ⟨by rfl, ?_⟩) (by assumption) ?_
  rotate_left 1
  · (intro w' hSw; (try obtain ⟨s0, s1, s2, s3⟩ := hSw); go_simp; try (with_reducible rfl))
  try simp only [Act.put, List.setIfInBounds_toArray, List.set_cons_zero, List.set_cons_succ]
  refine wpAnyH_take (i := 3) (oi := { dst := some 36, op := Op.move (Operand.tmp 7), type := 72, pos := "lock.go:57", after := #[{ on := 2, ground := Ground.guard }], guard := some (2, true) }) (v := ?_) rfl (by kernel_rfl) (by kernel_rfl) (by kernel_rfl) (fun _ _ _ h => h) (Or.inl ⟨by rfl, ?_⟩) (by assumption) ?_
  rotate_left 1
  · (intro w' hSw; (try obtain ⟨s0, s1, s2, s3⟩ := hSw); go_simp; try (with_reducible rfl))
  try simp only [Act.put, List.setIfInBounds_toArray, List.set_cons_zero, List.set_cons_succ]
  refine wpAnyH_take (i := 4) (oi := { dst := some 37, op := Op.nilCheck (Operand.tmp 36), type := 0, pos := "lock.go:57", after := #[{ on := 3, ground := Ground.data }, { on := 2, ground := Ground.guard }], guard := some (2, true) }) (v := ?_) rfl (by kernel_rfl) (by kernel_rfl) (by kernel_rfl) (fun _ _ _ h => h) (Or.inl ⟨by rfl, ?_⟩) (by assumption) ?_
  rotate_left 1
  · (intro w' hSw; (try obtain ⟨s0, s1, s2, s3⟩ := hSw); go_simp; try (with_reducible rfl))
  try simp only [Act.put, List.setIfInBounds_toArray, List.set_cons_zero, List.set_cons_succ]
  refine wpAnyH_take (i := 5) (oi := { dst := some 38, op := Op.fieldAddr 75 (Operand.tmp 37) 0, type := 0, pos := "lock.go:57", after := #[{ on := 4, ground := Ground.data }, { on := 2, ground := Ground.guard }], guard := some (2, true) }) (v := ?_) rfl (by kernel_rfl) (by kernel_rfl) (by kernel_rfl) (fun _ _ _ h => h) (Or.inl ⟨by rfl, ?_⟩) (by assumption) ?_
  rotate_left 1
  · (intro w' hSw; (try obtain ⟨s0, s1, s2, s3⟩ := hSw); go_simp; try (with_reducible rfl))
  try simp only [Act.put, List.setIfInBounds_toArray, List.set_cons_zero, List.set_cons_succ]
  refine wpAnyH_take (i := 6) (oi := { dst := some 39, op := Op.fieldAddr 40 (Operand.tmp 38) 1, type := 0, pos := "lock.go:57", after := #[{ on := 5, ground := Ground.data }, { on := 2, ground := Ground.guard }], guard := some (2, true) }) (v := ?_) rfl (by kernel_rfl) (by kernel_rfl) (by kernel_rfl) (fun _ _ _ h => h) (Or.inl ⟨by rfl, ?_⟩) (by assumption) ?_
  rotate_left 1
  · (intro w' hSw; (try obtain ⟨s0, s1, s2, s3⟩ := hSw); go_simp; try (with_reducible rfl))
  try simp only [Act.put, List.setIfInBounds_toArray, List.set_cons_zero, List.set_cons_succ]
  refine wpAnyH_take (i := 7) (oi := { dst := some 40, op := Op.load 4 (Operand.tmp 39), type := 4, pos := "lock.go:57", after := #[{ on := 6, ground := Ground.data }, { on := 2, ground := Ground.guard }], guard := some (2, true) }) (v := ?_) rfl (by kernel_rfl) (by kernel_rfl) (by kernel_rfl) (fun _ _ _ h => h) (Or.inl ⟨by rfl, ?_⟩) (by assumption) ?_
  rotate_left 1
  · (intro w' hSw; (try obtain ⟨s0, s1, s2, s3⟩ := hSw); go_simp; try (with_reducible rfl))
  try simp only [Act.put, List.setIfInBounds_toArray, List.set_cons_zero, List.set_cons_succ]
  refine wpAnyH_take (i := 8) (oi := { dst := some 41, op := Op.move (Operand.tmp 40), type := 4, pos := "lock.go:57", after := #[{ on := 7, ground := Ground.data }, { on := 2, ground := Ground.chain }, { on := 2, ground := Ground.guard }], guard := some (2, true) }) (v := ?_) rfl (by kernel_rfl) (by kernel_rfl) (by kernel_rfl) (fun _ _ _ h => h) (Or.inl ⟨by rfl, ?_⟩) (by assumption) ?_
  rotate_left 1
  · (intro w' hSw; (try obtain ⟨s0, s1, s2, s3⟩ := hSw); go_simp; try (with_reducible rfl))
  try simp only [Act.put, List.setIfInBounds_toArray, List.set_cons_zero, List.set_cons_succ]
  refine wpAnyH_take (i := 9) (oi := { dst := some 42, op := Op.move (Operand.tmp 7), type := 72, pos := "lock.go:57", after := #[{ on := 8, ground := Ground.guard }], guard := some (8, false) }) (v := undef) rfl (by kernel_rfl) (by kernel_rfl) (by kernel_rfl) (fun _ _ _ h => h) (Or.inr ⟨by rfl, rfl⟩) (by assumption) ?_
  try simp only [Act.put, List.setIfInBounds_toArray, List.set_cons_zero, List.set_cons_succ]
  refine wpAnyH_take (i := 10) (oi := { dst := some 43, op := Op.nilCheck (Operand.tmp 42), type := 0, pos := "lock.go:57", after := #[{ on := 9, ground := Ground.data }, { on := 8, ground := Ground.guard }], guard := some (8, false) }) (v := undef) rfl (by kernel_rfl) (by kernel_rfl) (by kernel_rfl) (fun _ _ _ h => h) (Or.inr ⟨by rfl, rfl⟩) (by assumption) ?_
  try simp only [Act.put, List.setIfInBounds_toArray, List.set_cons_zero, List.set_cons_succ]
  refine wpAnyH_take (i := 11) (oi := { dst := some 44, op := Op.fieldAddr 75 (Operand.tmp 43) 0, type := 0, pos := "lock.go:57", after := #[{ on := 10, ground := Ground.data }, { on := 8, ground := Ground.guard }], guard := some (8, false) }) (v := undef) rfl (by kernel_rfl) (by kernel_rfl) (by kernel_rfl) (fun _ _ _ h => h) (Or.inr ⟨by rfl, rfl⟩) (by assumption) ?_
  try simp only [Act.put, List.setIfInBounds_toArray, List.set_cons_zero, List.set_cons_succ]
  refine wpAnyH_take (i := 12) (oi := { dst := some 45, op := Op.load 40 (Operand.tmp 44), type := 40, pos := "lock.go:57", after := #[{ on := 11, ground := Ground.data }, { on := 8, ground := Ground.guard }], guard := some (8, false) }) (v := undef) rfl (by kernel_rfl) (by kernel_rfl) (by kernel_rfl) (fun _ _ _ h => h) (Or.inr ⟨by rfl, rfl⟩) (by assumption) ?_
  try simp only [Act.put, List.setIfInBounds_toArray, List.set_cons_zero, List.set_cons_succ]
  refine wpAnyH_take (i := 13) (oi := { dst := some 46, op := Op.load 40 (Operand.tmp 5), type := 40, pos := "lock.go:57", after := #[{ on := 8, ground := Ground.guard }], guard := some (8, false) }) (v := undef) rfl (by kernel_rfl) (by kernel_rfl) (by kernel_rfl) (fun _ _ _ h => h) (Or.inr ⟨by rfl, rfl⟩) (by assumption) ?_
  try simp only [Act.put, List.setIfInBounds_toArray, List.set_cons_zero, List.set_cons_succ]
  refine wpAnyH_take (i := 14) (oi := { dst := some 47, op := Op.binOp BinOp.eql 40 (Operand.tmp 45) (Operand.tmp 46) 40, type := 4, pos := "lock.go:57", after := #[{ on := 12, ground := Ground.data }, { on := 13, ground := Ground.data }, { on := 8, ground := Ground.guard }], guard := some (8, false) }) (v := undef) rfl (by kernel_rfl) (by kernel_rfl) (by kernel_rfl) (fun _ _ _ h => h) (Or.inr ⟨by rfl, rfl⟩) (by assumption) ?_
  try simp only [Act.put, List.setIfInBounds_toArray, List.set_cons_zero, List.set_cons_succ]
  refine wpAnyH_take (i := 15) (oi := { dst := some 48, op := Op.pick (Operand.tmp 41) (Operand.const (Value.bool true)) (Operand.tmp 47), type := 4, pos := "lock.go:57", after := #[{ on := 8, ground := Ground.data }, { on := 14, ground := Ground.data }, { on := 2, ground := Ground.guard }], guard := some (2, true) }) (v := ?_) rfl (by kernel_rfl) (by kernel_rfl) (by kernel_rfl) (fun _ _ _ h => h) (Or.inl ⟨by rfl, ?_⟩) (by assumption) ?_
  rotate_left 1
  · (intro w' hSw; (try obtain ⟨s0, s1, s2, s3⟩ := hSw); go_simp; try (with_reducible rfl))
  try simp only [Act.put, List.setIfInBounds_toArray, List.set_cons_zero, List.set_cons_succ]
  refine wpAnyH_take (i := 16) (oi := { dst := some 49, op := Op.pick (Operand.tmp 35) (Operand.tmp 48) (Operand.const (Value.bool false)), type := 4, pos := "lock.go:57", after := #[{ on := 2, ground := Ground.data }, { on := 15, ground := Ground.data }], guard := none }) (v := ?_) rfl (by kernel_rfl) (by kernel_rfl) (by kernel_rfl) (fun _ _ _ h => h) (Or.inl ⟨by rfl, ?_⟩) (by assumption) ?_
  rotate_left 1
  · (intro w' hSw; (try obtain ⟨s0, s1, s2, s3⟩ := hSw); go_simp; try (with_reducible rfl))
  try simp only [Act.put, List.setIfInBounds_toArray, List.set_cons_zero, List.set_cons_succ]
  refine wpAnyH_done (by kernel_rfl) ?_ _
  clear hHeld
  go_upto_region 7 with fail
  change Code.wp _ _ _ _ (World.drew _)
  rw [hW2]
  go_wp2
  go_ret
  exact ⟨rfl, HBR.out⟩
set_option maxRecDepth 100000 in
set_option maxHeartbeats 4000000 in
theorem ask_has_r (h : LkAt B W T ml mh mw n s) (hc : LkC s) (ho : 0 ≤ o) (hwf : (Lit.int .i64 o).wf = true) (hs : k.size ≤ 1000) (hw : s.wt o = none) (hh : s.hd o k = some h0) (hn : n ≤ 100000) (hwr : (s.con h0).wr = false) (hb : b = false) :
    Calls Try.prog 12 #[.pointer (some ⟨T, 0, none⟩), .int .i64 o, .agg #[.string k, .bool b]] W (fun e W' => e = .returned (.int .i64 0) ∧ Below W.heap.size W W') := by
  subst hb
  obtain ⟨hq0, how⟩ := hc.ok.h1 o k h0 hh
  have hck := (hc.ok.ck 0 k h0 (by decide) hq0).1
  have hba : Below W.heap.size W (W.alloc (.cells #[.string k, .bool false] 40)) := (Below.refl _ _).alloc (Nat.le_refl _) _
  have HA := Lib.hid (h.below hba)
  have c0 : (W.alloc (.cells #[.string k, .bool false] 40)).cell? ⟨W.heap.size, 0, none⟩ = some (.string k) := new_cell rfl rfl
  have c1 : (W.alloc (.cells #[.string k, .bool false] 40)).cell? ⟨W.heap.size, 1, none⟩ = some (.bool false) := new_cell rfl rfl
  have HBa := Lib.hid (hba.mono h.lts)
  have hCml : W.heap.size ≠ ml := by have := h.m0.lt; omega
  have hlt := h.lts
  have hYs : (W.alloc (.cells #[.string k, .bool false] 40)).heap.size = W.heap.size + 1 := World.size_alloc _ _
  generalize hY : W.alloc (.cells #[.string k, .bool false] 40) = Y at *
  have l2 := HA.out.m2.look waitsMap o hwf
  rw [hw] at l2
  replace l2 : (Instr.lookup 58 (.map (some mw)) (.int .i64 o) false).run Try.prog Y = .ok (.pointer none) Y := l2
  have t2 := HA.out.t2
  have HD := Lib.hid (HA.out.below (Below.refl _ _).drew)
  have hbd : Below Y.heap.size Y Y.drew := (Below.refl _ _).drew
  have d0 := keep_cell hbd c0
  have e1 := HD.out.t1
  have l1 := HD.out.m1.look heldMap o hwf
  have hlook : ∃ v, (Instr.lookup 57 (.map (some mh)) (.int .i64 o) false).run Try.prog Y.drew = .ok v Y.drew ∧ (Instr.lookup 73 v (.string k) false).run Try.prog Y.drew = .ok (.pointer (some ⟨h0, 0, none⟩)) Y.drew := by
    cases hm : s.hm o with
    | none => exact absurd hh (by rw [h.hn o hm k]; simp)
    | some m =>
      rw [hm] at l1
      have l2 := (HD.out.md o m hm).look waiterMap k (show k.size ≤ maxLen by unfold maxLen; omega)
      rw [hh] at l2
      exact ⟨_, l1, l2⟩
  obtain ⟨v, l4, l5⟩ := hlook
  have hbd2 : Below Y.heap.size Y Y.drew.drew := (Below.refl _ _).drew.drew
  have HE := Lib.hid (HA.out.below hbd2)
  have f0 := keep_cell hbd2 c0
  have f1 := keep_cell hbd2 c1
  have HBe := Lib.hid (HBa.out.trans (hbd2.mono HA.out.lts))
  have hE2 : Y.drew.drew.heap.size = Y.heap.size := rfl
  have zz := HE.out.wc 0 k h0 (by decide) hq0
  have z0 := zz.c0
  have z1 := zz.c1
  rw [hck] at z0
  generalize hW2 : Y.drew.drew = W2 at *
  generalize hW1 : Y.drew = W1 at *
  have KM := Lib.hid (made_any HA.out)
  have HC := Lib.hid hc
  have HH := Lib.hid hh
  have HS := Lib.hid hs
  have HN := Lib.hid hn
  have HQ0 := Lib.hid hq0
  have hEq := eq_claim k
  rw [hwr] at z1
  have HBR : Hid (Below W.heap.size W W2) := (hba.trans (hbd2.mono (by omega)))
  clear hwr hbd2
  clear h hba hw l1 hbd zz hck how hc hh hs hn hq0
  generalize hC : W.heap.size = C at *
  go_enter Try.func12, Try.ntmps12
  go_upto_region 1 with fail
  go_wp2_with fail
  refine KM.out.mono ?_
  rintro e w1 ⟨rfl, rfl⟩
  go_upto_region 5 with fail
  refine wp_region_any (by kernel_rfl) ?_
  change wpAny _ _ _ _ _ _ _ (World.drew _)
  rw [hW1]
  refine wpAny_rest 0 (by rfl) (by kernel_rfl) ?_
  simp only [List.drop_zero]
  repeat still_step
  refine wpStill_nil ?_
  go_upto_region 6 with fail
  refine wp_region_held_drew (S := fun w' => w'.cell? ⟨h0, 0, none⟩ = some (.string k) ∧ w'.cell? ⟨h0, 1, none⟩ = some (.bool false) ∧ w'.cell? ⟨C, 0, none⟩ = some (.string k) ∧ w'.cell? ⟨C, 1, none⟩ = some (.bool false)) (by kernel_rfl) ?_ (fun hHeld => ?_)
  · (try dsimp only); (try rw [hW2]); exact ⟨z0, z1, f0, f1⟩
  refine wpAnyH_take (i := 0) (oi := { dst := some 33, op := Op.move (Operand.tmp 7), type := 72, pos := "lock.go:57", after := #[], guard := none }) (v := ?_) rfl (by kernel_rfl) (by kernel_rfl) (by kernel_rfl) (fun _ _ _ h => h) (Or.inl ⟨by rfl, ?_⟩) (by assumption) ?_
  rotate_left 1
  · (intro w' hSw; (try obtain ⟨s0, s1, s2, s3⟩ := hSw); go_simp; try (with_reducible rfl))
  try simp only [Act.put, List.setIfInBounds_toArray, List.set_cons_zero, List.set_cons_succ]
  refine wpAnyH_take (i := 1) (oi := { dst := some 34, op := Op.binOp BinOp.neq 72 (Operand.tmp 33) (Operand.const (Value.pointer none)) 72, type := 4, pos := "lock.go:57", after := #[{ on := 0, ground := Ground.data }], guard := none }) (v := ?_) rfl (by kernel_rfl) (by kernel_rfl) (by kernel_rfl) (fun _ _ _ h => h) (Or.inl ⟨by rfl, ?_⟩) (by assumption) ?_
  rotate_left 1
  · (intro w' hSw; (try obtain ⟨s0, s1, s2, s3⟩ := hSw); go_simp; try (with_reducible rfl))
  try simp only [Act.put, List.setIfInBounds_toArray, List.set_cons_zero, List.set_cons_succ]
  refine wpAnyH_take (i := 2) (oi := { dst := some 35, op := Op.move (Operand.tmp 34), type := 4, pos := "lock.go:57", after := #[{ on := 1, ground := Ground.data }], guard := none }) (v := ?_) rfl (by kernel_rfl) (by kernel_rfl) (by kernel_rfl) (fun _ _ _ h => h) (Or.inl ⟨by rfl, ?_⟩) (by assumption) ?_
  rotate_left 1
  · (intro w' hSw; (try obtain ⟨s0, s1, s2, s3⟩ := hSw); go_simp; try (with_reducible rfl))
  try simp only [Act.put, List.setIfInBounds_toArray, List.set_cons_zero, List.set_cons_succ]
  refine wpAnyH_take (i := 3) (oi := { dst := some 36, op := Op.move (Operand.tmp 7), type := 72, pos := "lock.go:57", after := #[{ on := 2, ground := Ground.guard }], guard := some (2, true) }) (v := ?_) rfl (by kernel_rfl) (by kernel_rfl) (by kernel_rfl) (fun _ _ _ h => h) (Or.inl ⟨by rfl, ?_⟩) (by assumption) ?_
  rotate_left 1
  · (intro w' hSw; (try obtain ⟨s0, s1, s2, s3⟩ := hSw); go_simp; try (with_reducible rfl))
  try simp only [Act.put, List.setIfInBounds_toArray, List.set_cons_zero, List.set_cons_succ]
  refine wpAnyH_take (i := 4) (oi := { dst := some 37, op := Op.nilCheck (Operand.tmp 36), type := 0, pos := "lock.go:57", after := #[{ on := 3, ground := Ground.data }, { on := 2, ground := Ground.guard }], guard := some (2, true) }) (v := ?_) rfl (by kernel_rfl) (by kernel_rfl) (by kernel_rfl) (fun _ _ _ h => h) (Or.inl ⟨by rfl, ?_⟩) (by assumption) ?_
  rotate_left 1
  · (intro w' hSw; (try obtain ⟨s0, s1, s2, s3⟩ := hSw); go_simp; try (with_reducible rfl))
  try simp only [Act.put, List.setIfInBounds_toArray, List.set_cons_zero, List.set_cons_succ]
  refine wpAnyH_take (i := 5) (oi := { dst := some 38, op := Op.fieldAddr 75 (Operand.tmp 37) 0, type := 0, pos := "lock.go:57", after := #[{ on := 4, ground := Ground.data }, { on := 2, ground := Ground.guard }], guard := some (2, true) }) (v := ?_) rfl (by kernel_rfl) (by kernel_rfl) (by kernel_rfl) (fun _ _ _ h => h) (Or.inl ⟨by rfl, ?_⟩) (by assumption) ?_
  rotate_left 1
  · (intro w' hSw; (try obtain ⟨s0, s1, s2, s3⟩ := hSw); go_simp; try (with_reducible rfl))
  try simp only [Act.put, List.setIfInBounds_toArray, List.set_cons_zero, List.set_cons_succ]
  refine wpAnyH_take (i := 6) (oi := { dst := some 39, op := Op.fieldAddr 40 (Operand.tmp 38) 1, type := 0, pos := "lock.go:57", after := #[{ on := 5, ground := Ground.data }, { on := 2, ground := Ground.guard }], guard := some (2, true) }) (v := ?_) rfl (by kernel_rfl) (by kernel_rfl) (by kernel_rfl) (fun _ _ _ h => h) (Or.inl ⟨by rfl, ?_⟩) (by assumption) ?_
  rotate_left 1
  · (intro w' hSw; (try obtain ⟨s0, s1, s2, s3⟩ := hSw); go_simp; try (with_reducible rfl))
  try simp only [Act.put, List.setIfInBounds_toArray, List.set_cons_zero, List.set_cons_succ]
  refine wpAnyH_take (i := 7) (oi := { dst := some 40, op := Op.load 4 (Operand.tmp 39), type := 4, pos := "lock.go:57", after := #[{ on := 6, ground := Ground.data }, { on := 2, ground := Ground.guard }], guard := some (2, true) }) (v := ?_) rfl (by kernel_rfl) (by kernel_rfl) (by kernel_rfl) (fun _ _ _ h => h) (Or.inl ⟨by rfl, ?_⟩) (by assumption) ?_
  rotate_left 1
  · (intro w' hSw; (try obtain ⟨s0, s1, s2, s3⟩ := hSw); go_simp; try (with_reducible rfl))
  try simp only [Act.put, List.setIfInBounds_toArray, List.set_cons_zero, List.set_cons_succ]
  refine wpAnyH_take (i := 8) (oi := { dst := some 41, op := Op.move (Operand.tmp 40), type := 4, pos := "lock.go:57", after := #[{ on := 7, ground := Ground.data }, { on := 2, ground := Ground.chain }, { on := 2, ground := Ground.guard }], guard := some (2, true) }) (v := ?_) rfl (by kernel_rfl) (by kernel_rfl) (by kernel_rfl) (fun _ _ _ h => h) (Or.inl ⟨by rfl, ?_⟩) (by assumption) ?_
  rotate_left 1
  · (intro w' hSw; (try obtain ⟨s0, s1, s2, s3⟩ := hSw); go_simp; try (with_reducible rfl))
  try simp only [Act.put, List.setIfInBounds_toArray, List.set_cons_zero, List.set_cons_succ]
  refine wpAnyH_take (i := 9) (oi := { dst := some 42, op := Op.move (Operand.tmp 7), type := 72, pos := "lock.go:57", after := #[{ on := 8, ground := Ground.guard }], guard := some (8, false) }) (v := ?_) rfl (by kernel_rfl) (by kernel_rfl) (by kernel_rfl) (fun _ _ _ h => h) (Or.inl ⟨by rfl, ?_⟩) (by assumption) ?_
  rotate_left 1
  · (intro w' hSw; (try obtain ⟨s0, s1, s2, s3⟩ := hSw); go_simp; try (with_reducible rfl))
  try simp only [Act.put, List.setIfInBounds_toArray, List.set_cons_zero, List.set_cons_succ]
  refine wpAnyH_take (i := 10) (oi := { dst := some 43, op := Op.nilCheck (Operand.tmp 42), type := 0, pos := "lock.go:57", after := #[{ on := 9, ground := Ground.data }, { on := 8, ground := Ground.guard }], guard := some (8, false) }) (v := ?_) rfl (by kernel_rfl) (by kernel_rfl) (by kernel_rfl) (fun _ _ _ h => h) (Or.inl ⟨by rfl, ?_⟩) (by assumption) ?_
  rotate_left 1
  · (intro w' hSw; (try obtain ⟨s0, s1, s2, s3⟩ := hSw); go_simp; try (with_reducible rfl))
  try simp only [Act.put, List.setIfInBounds_toArray, List.set_cons_zero, List.set_cons_succ]
  refine wpAnyH_take (i := 11) (oi := { dst := some 44, op := Op.fieldAddr 75 (Operand.tmp 43) 0, type := 0, pos := "lock.go:57", after := #[{ on := 10, ground := Ground.data }, { on := 8, ground := Ground.guard }], guard := some (8, false) }) (v := ?_) rfl (by kernel_rfl) (by kernel_rfl) (by kernel_rfl) (fun _ _ _ h => h) (Or.inl ⟨by rfl, ?_⟩) (by assumption) ?_
  rotate_left 1
  · (intro w' hSw; (try obtain ⟨s0, s1, s2, s3⟩ := hSw); go_simp; try (with_reducible rfl))
  try simp only [Act.put, List.setIfInBounds_toArray, List.set_cons_zero, List.set_cons_succ]
  refine wpAnyH_take (i := 12) (oi := { dst := some 45, op := Op.load 40 (Operand.tmp 44), type := 40, pos := "lock.go:57", after := #[{ on := 11, ground := Ground.data }, { on := 8, ground := Ground.guard }], guard := some (8, false) }) (v := ?_) rfl (by kernel_rfl) (by kernel_rfl) (by kernel_rfl) (fun _ _ _ h => h) (Or.inl ⟨by rfl, ?_⟩) (by assumption) ?_
  rotate_left 1
  · (intro w' hSw; (try obtain ⟨s0, s1, s2, s3⟩ := hSw); go_simp; try (with_reducible rfl))
  try simp only [Act.put, List.setIfInBounds_toArray, List.set_cons_zero, List.set_cons_succ]
  refine wpAnyH_take (i := 13) (oi := { dst := some 46, op := Op.load 40 (Operand.tmp 5), type := 40, pos := "lock.go:57", after := #[{ on := 8, ground := Ground.guard }], guard := some (8, false) }) (v := ?_) rfl (by kernel_rfl) (by kernel_rfl) (by kernel_rfl) (fun _ _ _ h => h) (Or.inl ⟨by rfl, ?_⟩) (by assumption) ?_
  rotate_left 1
  · (intro w' hSw; (try obtain ⟨s0, s1, s2, s3⟩ := hSw); go_simp; try (with_reducible rfl))
  try simp only [Act.put, List.setIfInBounds_toArray, List.set_cons_zero, List.set_cons_succ]
  refine wpAnyH_take (i := 14) (oi := { dst := some 47, op := Op.binOp BinOp.eql 40 (Operand.tmp 45) (Operand.tmp 46) 40, type := 4, pos := "lock.go:57", after := #[{ on := 12, ground := Ground.data }, { on := 13, ground := Ground.data }, { on := 8, ground := Ground.guard }], guard := some (8, false) }) (v := ?_) rfl (by kernel_rfl) (by kernel_rfl) (by kernel_rfl) (fun _ _ _ h => h) (Or.inl ⟨by rfl, ?_⟩) (by assumption) ?_
  rotate_left 1
  · (intro w' hSw; (try obtain ⟨s0, s1, s2, s3⟩ := hSw); go_simp; try (with_reducible rfl))
  try simp only [Act.put, List.setIfInBounds_toArray, List.set_cons_zero, List.set_cons_succ]
  refine wpAnyH_take (i := 15) (oi := { dst := some 48, op := Op.pick (Operand.tmp 41) (Operand.const (Value.bool true)) (Operand.tmp 47), type := 4, pos := "lock.go:57", after := #[{ on := 8, ground := Ground.data }, { on := 14, ground := Ground.data }, { on := 2, ground := Ground.guard }], guard := some (2, true) }) (v := ?_) rfl (by kernel_rfl) (by kernel_rfl) (by kernel_rfl) (fun _ _ _ h => h) (Or.inl ⟨by rfl, ?_⟩) (by assumption) ?_
  rotate_left 1
  · (intro w' hSw; (try obtain ⟨s0, s1, s2, s3⟩ := hSw); go_simp; try (with_reducible rfl))
  try simp only [Act.put, List.setIfInBounds_toArray, List.set_cons_zero, List.set_cons_succ]
  refine wpAnyH_take (i := 16) (oi := { dst := some 49, op := Op.pick (Operand.tmp 35) (Operand.tmp 48) (Operand.const (Value.bool false)), type := 4, pos := "lock.go:57", after := #[{ on := 2, ground := Ground.data }, { on := 15, ground := Ground.data }], guard := none }) (v := ?_) rfl (by kernel_rfl) (by kernel_rfl) (by kernel_rfl) (fun _ _ _ h => h) (Or.inl ⟨by rfl, ?_⟩) (by assumption) ?_
  rotate_left 1
  · (intro w' hSw; (try obtain ⟨s0, s1, s2, s3⟩ := hSw); go_simp; try (with_reducible rfl))
  try simp only [Act.put, List.setIfInBounds_toArray, List.set_cons_zero, List.set_cons_succ]
  refine wpAnyH_done (by kernel_rfl) ?_ _
  clear hHeld
  go_upto_region 7 with fail
  change Code.wp _ _ _ _ (World.drew _)
  rw [hW2]
  go_wp2
  go_ret
  exact ⟨rfl, HBR.out⟩
set_option maxRecDepth 100000 in
set_option maxHeartbeats 4000000 in
theorem ask_up (h : LkAt B W T ml mh mw n s) (hc : LkC s) (ho : 0 ≤ o) (hwf : (Lit.int .i64 o).wf = true) (hs : k.size ≤ 1000) (hw : s.wt o = none) (hh : s.hd o k = some h0) (hn : n ≤ 100000) (hwr : (s.con h0).wr = false) (hb : b = true) (hfree : freeB s.con ⟨k, b, o⟩ (s.q 0 k) = true) :
    Calls Try.prog 12 #[.pointer (some ⟨T, 0, none⟩), .int .i64 o, .agg #[.string k, .bool b]] W (AskU B T ml mh mw n h0 s k b o W) := by
  subst hb
  obtain ⟨hq0, how⟩ := hc.ok.h1 o k h0 hh
  have hck := (hc.ok.ck 0 k h0 (by decide) hq0).1
  have hba : Below W.heap.size W (W.alloc (.cells #[.string k, .bool true] 40)) := (Below.refl _ _).alloc (Nat.le_refl _) _
  have HA := Lib.hid (h.below hba)
  have c0 : (W.alloc (.cells #[.string k, .bool true] 40)).cell? ⟨W.heap.size, 0, none⟩ = some (.string k) := new_cell rfl rfl
  have c1 : (W.alloc (.cells #[.string k, .bool true] 40)).cell? ⟨W.heap.size, 1, none⟩ = some (.bool true) := new_cell rfl rfl
  have HBa := Lib.hid (hba.mono h.lts)
  have hCml : W.heap.size ≠ ml := by have := h.m0.lt; omega
  have hlt := h.lts
  have hYs : (W.alloc (.cells #[.string k, .bool true] 40)).heap.size = W.heap.size + 1 := World.size_alloc _ _
  generalize hY : W.alloc (.cells #[.string k, .bool true] 40) = Y at *
  have l2 := HA.out.m2.look waitsMap o hwf
  rw [hw] at l2
  replace l2 : (Instr.lookup 58 (.map (some mw)) (.int .i64 o) false).run Try.prog Y = .ok (.pointer none) Y := l2
  have t2 := HA.out.t2
  have HD := Lib.hid (HA.out.below (Below.refl _ _).drew)
  have hbd : Below Y.heap.size Y Y.drew := (Below.refl _ _).drew
  have d0 := keep_cell hbd c0
  have e1 := HD.out.t1
  have l1 := HD.out.m1.look heldMap o hwf
  have hlook : ∃ v, (Instr.lookup 57 (.map (some mh)) (.int .i64 o) false).run Try.prog Y.drew = .ok v Y.drew ∧ (Instr.lookup 73 v (.string k) false).run Try.prog Y.drew = .ok (.pointer (some ⟨h0, 0, none⟩)) Y.drew := by
    cases hm : s.hm o with
    | none => exact absurd hh (by rw [h.hn o hm k]; simp)
    | some m =>
      rw [hm] at l1
      have l2 := (HD.out.md o m hm).look waiterMap k (show k.size ≤ maxLen by unfold maxLen; omega)
      rw [hh] at l2
      exact ⟨_, l1, l2⟩
  obtain ⟨v, l4, l5⟩ := hlook
  have hbd2 : Below Y.heap.size Y Y.drew.drew := (Below.refl _ _).drew.drew
  have HE := Lib.hid (HA.out.below hbd2)
  have f0 := keep_cell hbd2 c0
  have f1 := keep_cell hbd2 c1
  have HBe := Lib.hid (HBa.out.trans (hbd2.mono HA.out.lts))
  have hE2 : Y.drew.drew.heap.size = Y.heap.size := rfl
  have zz := HE.out.wc 0 k h0 (by decide) hq0
  have z0 := zz.c0
  have z1 := zz.c1
  rw [hck] at z0
  generalize hW2 : Y.drew.drew = W2 at *
  generalize hW1 : Y.drew = W1 at *
  have KM := Lib.hid (made_any HA.out)
  have HC := Lib.hid hc
  have HH := Lib.hid hh
  have HS := Lib.hid hs
  have HN := Lib.hid hn
  have HQ0 := Lib.hid hq0
  have hEq := eq_claim k
  have KO := Lib.hid (lockOf_any HE.out k (by unfold maxLen; omega) (by omega) (by unfold maxLen; omega))
  rw [hwr] at z1
  clear hwr hbd2
  clear h hba hw l1 hbd zz hck how hc hh hs hn hq0
  generalize hC : W.heap.size = C at *
  go_enter Try.func12, Try.ntmps12
  go_upto_region 1 with fail
  go_wp2_with fail
  refine KM.out.mono ?_
  rintro e w1 ⟨rfl, rfl⟩
  go_upto_region 5 with fail
  refine wp_region_any (by kernel_rfl) ?_
  change wpAny _ _ _ _ _ _ _ (World.drew _)
  rw [hW1]
  refine wpAny_rest 0 (by rfl) (by kernel_rfl) ?_
  simp only [List.drop_zero]
  repeat still_step
  refine wpStill_nil ?_
  go_upto_region 6 with fail
  refine wp_region_held_drew (S := fun w' => w'.cell? ⟨h0, 0, none⟩ = some (.string k) ∧ w'.cell? ⟨h0, 1, none⟩ = some (.bool false) ∧ w'.cell? ⟨C, 0, none⟩ = some (.string k) ∧ w'.cell? ⟨C, 1, none⟩ = some (.bool true)) (by kernel_rfl) ?_ (fun hHeld => ?_)
  · (try dsimp only); (try rw [hW2]); exact ⟨z0, z1, f0, f1⟩
  refine wpAnyH_take (i := 0) (oi := { dst := some 33, op := Op.move (Operand.tmp 7), type := 72, pos := "lock.go:57", after := #[], guard := none }) (v := ?_) rfl (by kernel_rfl) (by kernel_rfl) (by kernel_rfl) (fun _ _ _ h => h) (Or.inl ⟨by rfl, ?_⟩) (by assumption) ?_
  rotate_left 1
  · (intro w' hSw; (try obtain ⟨s0, s1, s2, s3⟩ := hSw); go_simp; try (with_reducible rfl))
  try simp only [Act.put, List.setIfInBounds_toArray, List.set_cons_zero, List.set_cons_succ]
  refine wpAnyH_take (i := 1) (oi := { dst := some 34, op := Op.binOp BinOp.neq 72 (Operand.tmp 33) (Operand.const (Value.pointer none)) 72, type := 4, pos := "lock.go:57", after := #[{ on := 0, ground := Ground.data }], guard := none }) (v := ?_) rfl (by kernel_rfl) (by kernel_rfl) (by kernel_rfl) (fun _ _ _ h => h) (Or.inl ⟨by rfl, ?_⟩) (by assumption) ?_
  rotate_left 1
  · (intro w' hSw; (try obtain ⟨s0, s1, s2, s3⟩ := hSw); go_simp; try (with_reducible rfl))
  try simp only [Act.put, List.setIfInBounds_toArray, List.set_cons_zero, List.set_cons_succ]
  refine wpAnyH_take (i := 2) (oi := { dst := some 35, op := Op.move (Operand.tmp 34), type := 4, pos := "lock.go:57", after := #[{ on := 1, ground := Ground.data }], guard := none }) (v := ?_) rfl (by kernel_rfl) (by kernel_rfl) (by kernel_rfl) (fun _ _ _ h => h) (Or.inl ⟨by rfl, ?_⟩) (by assumption) ?_
  rotate_left 1
  · (intro w' hSw; (try obtain ⟨s0, s1, s2, s3⟩ := hSw); go_simp; try (with_reducible rfl))
  try simp only [Act.put, List.setIfInBounds_toArray, List.set_cons_zero, List.set_cons_succ]
  refine wpAnyH_take (i := 3) (oi := { dst := some 36, op := Op.move (Operand.tmp 7), type := 72, pos := "lock.go:57", after := #[{ on := 2, ground := Ground.guard }], guard := some (2, true) }) (v := ?_) rfl (by kernel_rfl) (by kernel_rfl) (by kernel_rfl) (fun _ _ _ h => h) (Or.inl ⟨by rfl, ?_⟩) (by assumption) ?_
  rotate_left 1
  · (intro w' hSw; (try obtain ⟨s0, s1, s2, s3⟩ := hSw); go_simp; try (with_reducible rfl))
  try simp only [Act.put, List.setIfInBounds_toArray, List.set_cons_zero, List.set_cons_succ]
  refine wpAnyH_take (i := 4) (oi := { dst := some 37, op := Op.nilCheck (Operand.tmp 36), type := 0, pos := "lock.go:57", after := #[{ on := 3, ground := Ground.data }, { on := 2, ground := Ground.guard }], guard := some (2, true) }) (v := ?_) rfl (by kernel_rfl) (by kernel_rfl) (by kernel_rfl) (fun _ _ _ h => h) (Or.inl ⟨by rfl, ?_⟩) (by assumption) ?_
  rotate_left 1
  · (intro w' hSw; (try obtain ⟨s0, s1, s2, s3⟩ := hSw); go_simp; try (with_reducible rfl))
  try simp only [Act.put, List.setIfInBounds_toArray, List.set_cons_zero, List.set_cons_succ]
  refine wpAnyH_take (i := 5) (oi := { dst := some 38, op := Op.fieldAddr 75 (Operand.tmp 37) 0, type := 0, pos := "lock.go:57", after := #[{ on := 4, ground := Ground.data }, { on := 2, ground := Ground.guard }], guard := some (2, true) }) (v := ?_) rfl (by kernel_rfl) (by kernel_rfl) (by kernel_rfl) (fun _ _ _ h => h) (Or.inl ⟨by rfl, ?_⟩) (by assumption) ?_
  rotate_left 1
  · (intro w' hSw; (try obtain ⟨s0, s1, s2, s3⟩ := hSw); go_simp; try (with_reducible rfl))
  try simp only [Act.put, List.setIfInBounds_toArray, List.set_cons_zero, List.set_cons_succ]
  refine wpAnyH_take (i := 6) (oi := { dst := some 39, op := Op.fieldAddr 40 (Operand.tmp 38) 1, type := 0, pos := "lock.go:57", after := #[{ on := 5, ground := Ground.data }, { on := 2, ground := Ground.guard }], guard := some (2, true) }) (v := ?_) rfl (by kernel_rfl) (by kernel_rfl) (by kernel_rfl) (fun _ _ _ h => h) (Or.inl ⟨by rfl, ?_⟩) (by assumption) ?_
  rotate_left 1
  · (intro w' hSw; (try obtain ⟨s0, s1, s2, s3⟩ := hSw); go_simp; try (with_reducible rfl))
  try simp only [Act.put, List.setIfInBounds_toArray, List.set_cons_zero, List.set_cons_succ]
  refine wpAnyH_take (i := 7) (oi := { dst := some 40, op := Op.load 4 (Operand.tmp 39), type := 4, pos := "lock.go:57", after := #[{ on := 6, ground := Ground.data }, { on := 2, ground := Ground.guard }], guard := some (2, true) }) (v := ?_) rfl (by kernel_rfl) (by kernel_rfl) (by kernel_rfl) (fun _ _ _ h => h) (Or.inl ⟨by rfl, ?_⟩) (by assumption) ?_
  rotate_left 1
  · (intro w' hSw; (try obtain ⟨s0, s1, s2, s3⟩ := hSw); go_simp; try (with_reducible rfl))
  try simp only [Act.put, List.setIfInBounds_toArray, List.set_cons_zero, List.set_cons_succ]
  refine wpAnyH_take (i := 8) (oi := { dst := some 41, op := Op.move (Operand.tmp 40), type := 4, pos := "lock.go:57", after := #[{ on := 7, ground := Ground.data }, { on := 2, ground := Ground.chain }, { on := 2, ground := Ground.guard }], guard := some (2, true) }) (v := ?_) rfl (by kernel_rfl) (by kernel_rfl) (by kernel_rfl) (fun _ _ _ h => h) (Or.inl ⟨by rfl, ?_⟩) (by assumption) ?_
  rotate_left 1
  · (intro w' hSw; (try obtain ⟨s0, s1, s2, s3⟩ := hSw); go_simp; try (with_reducible rfl))
  try simp only [Act.put, List.setIfInBounds_toArray, List.set_cons_zero, List.set_cons_succ]
  refine wpAnyH_take (i := 9) (oi := { dst := some 42, op := Op.move (Operand.tmp 7), type := 72, pos := "lock.go:57", after := #[{ on := 8, ground := Ground.guard }], guard := some (8, false) }) (v := ?_) rfl (by kernel_rfl) (by kernel_rfl) (by kernel_rfl) (fun _ _ _ h => h) (Or.inl ⟨by rfl, ?_⟩) (by assumption) ?_
  rotate_left 1
  · (intro w' hSw; (try obtain ⟨s0, s1, s2, s3⟩ := hSw); go_simp; try (with_reducible rfl))
  try simp only [Act.put, List.setIfInBounds_toArray, List.set_cons_zero, List.set_cons_succ]
  refine wpAnyH_take (i := 10) (oi := { dst := some 43, op := Op.nilCheck (Operand.tmp 42), type := 0, pos := "lock.go:57", after := #[{ on := 9, ground := Ground.data }, { on := 8, ground := Ground.guard }], guard := some (8, false) }) (v := ?_) rfl (by kernel_rfl) (by kernel_rfl) (by kernel_rfl) (fun _ _ _ h => h) (Or.inl ⟨by rfl, ?_⟩) (by assumption) ?_
  rotate_left 1
  · (intro w' hSw; (try obtain ⟨s0, s1, s2, s3⟩ := hSw); go_simp; try (with_reducible rfl))
  try simp only [Act.put, List.setIfInBounds_toArray, List.set_cons_zero, List.set_cons_succ]
  refine wpAnyH_take (i := 11) (oi := { dst := some 44, op := Op.fieldAddr 75 (Operand.tmp 43) 0, type := 0, pos := "lock.go:57", after := #[{ on := 10, ground := Ground.data }, { on := 8, ground := Ground.guard }], guard := some (8, false) }) (v := ?_) rfl (by kernel_rfl) (by kernel_rfl) (by kernel_rfl) (fun _ _ _ h => h) (Or.inl ⟨by rfl, ?_⟩) (by assumption) ?_
  rotate_left 1
  · (intro w' hSw; (try obtain ⟨s0, s1, s2, s3⟩ := hSw); go_simp; try (with_reducible rfl))
  try simp only [Act.put, List.setIfInBounds_toArray, List.set_cons_zero, List.set_cons_succ]
  refine wpAnyH_take (i := 12) (oi := { dst := some 45, op := Op.load 40 (Operand.tmp 44), type := 40, pos := "lock.go:57", after := #[{ on := 11, ground := Ground.data }, { on := 8, ground := Ground.guard }], guard := some (8, false) }) (v := ?_) rfl (by kernel_rfl) (by kernel_rfl) (by kernel_rfl) (fun _ _ _ h => h) (Or.inl ⟨by rfl, ?_⟩) (by assumption) ?_
  rotate_left 1
  · (intro w' hSw; (try obtain ⟨s0, s1, s2, s3⟩ := hSw); go_simp; try (with_reducible rfl))
  try simp only [Act.put, List.setIfInBounds_toArray, List.set_cons_zero, List.set_cons_succ]
  refine wpAnyH_take (i := 13) (oi := { dst := some 46, op := Op.load 40 (Operand.tmp 5), type := 40, pos := "lock.go:57", after := #[{ on := 8, ground := Ground.guard }], guard := some (8, false) }) (v := ?_) rfl (by kernel_rfl) (by kernel_rfl) (by kernel_rfl) (fun _ _ _ h => h) (Or.inl ⟨by rfl, ?_⟩) (by assumption) ?_
  rotate_left 1
  · (intro w' hSw; (try obtain ⟨s0, s1, s2, s3⟩ := hSw); go_simp; try (with_reducible rfl))
  try simp only [Act.put, List.setIfInBounds_toArray, List.set_cons_zero, List.set_cons_succ]
  refine wpAnyH_take (i := 14) (oi := { dst := some 47, op := Op.binOp BinOp.eql 40 (Operand.tmp 45) (Operand.tmp 46) 40, type := 4, pos := "lock.go:57", after := #[{ on := 12, ground := Ground.data }, { on := 13, ground := Ground.data }, { on := 8, ground := Ground.guard }], guard := some (8, false) }) (v := ?_) rfl (by kernel_rfl) (by kernel_rfl) (by kernel_rfl) (fun _ _ _ h => h) (Or.inl ⟨by rfl, ?_⟩) (by assumption) ?_
  rotate_left 1
  · (intro w' hSw; (try obtain ⟨s0, s1, s2, s3⟩ := hSw); go_simp; try (with_reducible rfl))
  try simp only [Act.put, List.setIfInBounds_toArray, List.set_cons_zero, List.set_cons_succ]
  refine wpAnyH_take (i := 15) (oi := { dst := some 48, op := Op.pick (Operand.tmp 41) (Operand.const (Value.bool true)) (Operand.tmp 47), type := 4, pos := "lock.go:57", after := #[{ on := 8, ground := Ground.data }, { on := 14, ground := Ground.data }, { on := 2, ground := Ground.guard }], guard := some (2, true) }) (v := ?_) rfl (by kernel_rfl) (by kernel_rfl) (by kernel_rfl) (fun _ _ _ h => h) (Or.inl ⟨by rfl, ?_⟩) (by assumption) ?_
  rotate_left 1
  · (intro w' hSw; (try obtain ⟨s0, s1, s2, s3⟩ := hSw); go_simp; try (with_reducible rfl))
  try simp only [Act.put, List.setIfInBounds_toArray, List.set_cons_zero, List.set_cons_succ]
  refine wpAnyH_take (i := 16) (oi := { dst := some 49, op := Op.pick (Operand.tmp 35) (Operand.tmp 48) (Operand.const (Value.bool false)), type := 4, pos := "lock.go:57", after := #[{ on := 2, ground := Ground.data }, { on := 15, ground := Ground.data }], guard := none }) (v := ?_) rfl (by kernel_rfl) (by kernel_rfl) (by kernel_rfl) (fun _ _ _ h => h) (Or.inl ⟨by rfl, ?_⟩) (by assumption) ?_
  rotate_left 1
  · (intro w' hSw; (try obtain ⟨s0, s1, s2, s3⟩ := hSw); go_simp; try (with_reducible rfl))
  try simp only [Act.put, List.setIfInBounds_toArray, List.set_cons_zero, List.set_cons_succ]
  refine wpAnyH_done (by kernel_rfl) ?_ _
  clear hHeld
  go_upto_region 8 with fail
  change Code.wp _ _ _ _ (World.drew _)
  rw [hW2]
  go_wp2_with fail
  refine KO.out.mono ?_
  rintro e w2 ⟨K, rfl, h2, hb2, hs2, hf2⟩
  have g0 := (World.cell?_of_block (a := ⟨C, 0, none⟩) (hf2 C (by omega) hCml)).trans f0
  have g1 := (World.cell?_of_block (a := ⟨C, 1, none⟩) (hf2 C (by omega) hCml)).trans f1
  have KK := Lib.hid (kept_any k true w2 (by have := HS.out; omega))
  clear KO KM hf2
  go_wp2_with fail
  refine KK.out.mono ?_
  rintro e w3 ⟨rfl, hb3⟩
  have hbw : Below w3.heap.size w3 (w3.alloc (.cells #[.string k, .bool true, .int .i64 o, .pointer none, .pointer none] 75)) := (Below.refl _ _).alloc (Nat.le_refl _) _
  have h3 := h2.below hb3
  have A1 : Hid (AskA B W (w3.alloc (.cells #[.string k, .bool true, .int .i64 o, .pointer none, .pointer none] 75)) T ml mh mw n K w3.heap.size s k true o) :=
    ⟨h3.below hbw, ⟨⟨new_cell rfl rfl, new_cell rfl rfl, new_cell rfl rfl⟩, ⟨_, new_cell rfl rfl⟩, ⟨_, new_cell rfl rfl⟩, fun i => World.frozen?_alloc_at _ _ _ _ rfl⟩, fun i k' hi hm => by
      have := (h3.wc i k' _ hi hm).lt
      omega, fun b c e => by
      have := h3.ps.lt (b := b) (c := c) e
      omega, h3.lts, ((HBe.out.trans hb2).trans (hb3.mono h2.lts)).trans (hbw.mono h3.lts)⟩
  clear h2 hb2 hs2 hb3 hbw h3 KK
  go_upto_region 10 with fail
  generalize w3.alloc (.cells #[.string k, .bool true, .int .i64 o, .pointer none, .pointer none] 75) = Z at *
  generalize w3.heap.size = w at *
  have KR := Lib.hid A1.out.free
  rw [hfree] at KR
  go_wp2_with fail
  refine KR.out.mono ?_
  rintro e w4 ⟨rfl, hb4⟩
  have A2 := Lib.hid (A1.out.below hb4)
  clear A1 KR hb4
  have hmo : ∃ m, s.hm o = some m := by
    cases e : s.hm o with
    | none =>
      have := A2.out.t.hn o e k
      rw [show (lockS s k K).hd o k = some h0 from HH.out] at this; cases this
    | some m => exact ⟨m, rfl⟩
  obtain ⟨m, hm⟩ := hmo
  have KH := Lib.hid (hold_up A2.out.t A2.out.f A2.out.nf (h0 := h0) (m := m) hm HH.out HQ0.out (by rw [lockS_k]; rfl) (show k.size ≤ maxLen by have := HS.out; unfold maxLen; omega) hwf)
  have BE := Lib.hid A2.out.be
  clear A2 hm
  go_wp2_with fail
  refine KH.out.mono ?_
  rintro e w5 ⟨rfl, h5, hb5, _⟩
  have HP : Hid (AskU B T ml mh mw n h0 s k true o W (.returned (.int .i64 0)) w5) := ⟨rfl, K, h5.mono (by omega), BE.out.trans hb5⟩
  clear h5 hb5 KH
  go_wp2
  go_ret
  exact HP.out
set_option maxRecDepth 100000 in
set_option maxHeartbeats 4000000 in
theorem ask_upw (h : LkAt B W T ml mh mw n s) (hc : LkC s) (ho : 0 ≤ o) (hwf : (Lit.int .i64 o).wf = true) (hs : k.size ≤ 1000) (hw : s.wt o = none) (hh : s.hd o k = some h0) (hn : n ≤ 100000) (hwr : (s.con h0).wr = false) (hb : b = true) (hfree : freeB s.con ⟨k, b, o⟩ (s.q 0 k) = false) :
    Calls Try.prog 12 #[.pointer (some ⟨T, 0, none⟩), .int .i64 o, .agg #[.string k, .bool b]] W (AskV B T ml mh mw n s k b o W) := by
  subst hb
  obtain ⟨hq0, how⟩ := hc.ok.h1 o k h0 hh
  have hck := (hc.ok.ck 0 k h0 (by decide) hq0).1
  have hba : Below W.heap.size W (W.alloc (.cells #[.string k, .bool true] 40)) := (Below.refl _ _).alloc (Nat.le_refl _) _
  have HA := Lib.hid (h.below hba)
  have c0 : (W.alloc (.cells #[.string k, .bool true] 40)).cell? ⟨W.heap.size, 0, none⟩ = some (.string k) := new_cell rfl rfl
  have c1 : (W.alloc (.cells #[.string k, .bool true] 40)).cell? ⟨W.heap.size, 1, none⟩ = some (.bool true) := new_cell rfl rfl
  have HBa := Lib.hid (hba.mono h.lts)
  have hCml : W.heap.size ≠ ml := by have := h.m0.lt; omega
  have hlt := h.lts
  have hYs : (W.alloc (.cells #[.string k, .bool true] 40)).heap.size = W.heap.size + 1 := World.size_alloc _ _
  generalize hY : W.alloc (.cells #[.string k, .bool true] 40) = Y at *
  have l2 := HA.out.m2.look waitsMap o hwf
  rw [hw] at l2
  replace l2 : (Instr.lookup 58 (.map (some mw)) (.int .i64 o) false).run Try.prog Y = .ok (.pointer none) Y := l2
  have t2 := HA.out.t2
  have HD := Lib.hid (HA.out.below (Below.refl _ _).drew)
  have hbd : Below Y.heap.size Y Y.drew := (Below.refl _ _).drew
  have d0 := keep_cell hbd c0
  have e1 := HD.out.t1
  have l1 := HD.out.m1.look heldMap o hwf
  have hlook : ∃ v, (Instr.lookup 57 (.map (some mh)) (.int .i64 o) false).run Try.prog Y.drew = .ok v Y.drew ∧ (Instr.lookup 73 v (.string k) false).run Try.prog Y.drew = .ok (.pointer (some ⟨h0, 0, none⟩)) Y.drew := by
    cases hm : s.hm o with
    | none => exact absurd hh (by rw [h.hn o hm k]; simp)
    | some m =>
      rw [hm] at l1
      have l2 := (HD.out.md o m hm).look waiterMap k (show k.size ≤ maxLen by unfold maxLen; omega)
      rw [hh] at l2
      exact ⟨_, l1, l2⟩
  obtain ⟨v, l4, l5⟩ := hlook
  have hbd2 : Below Y.heap.size Y Y.drew.drew := (Below.refl _ _).drew.drew
  have HE := Lib.hid (HA.out.below hbd2)
  have f0 := keep_cell hbd2 c0
  have f1 := keep_cell hbd2 c1
  have HBe := Lib.hid (HBa.out.trans (hbd2.mono HA.out.lts))
  have hE2 : Y.drew.drew.heap.size = Y.heap.size := rfl
  have zz := HE.out.wc 0 k h0 (by decide) hq0
  have z0 := zz.c0
  have z1 := zz.c1
  rw [hck] at z0
  generalize hW2 : Y.drew.drew = W2 at *
  generalize hW1 : Y.drew = W1 at *
  have KM := Lib.hid (made_any HA.out)
  have HC := Lib.hid hc
  have HH := Lib.hid hh
  have HS := Lib.hid hs
  have HN := Lib.hid hn
  have HQ0 := Lib.hid hq0
  have hEq := eq_claim k
  have KO := Lib.hid (lockOf_any HE.out k (by unfold maxLen; omega) (by omega) (by unfold maxLen; omega))
  rw [hwr] at z1
  clear hwr hbd2
  clear h hba hw l1 hbd zz hck how hc hh hs hn hq0
  generalize hC : W.heap.size = C at *
  go_enter Try.func12, Try.ntmps12
  go_upto_region 1 with fail
  go_wp2_with fail
  refine KM.out.mono ?_
  rintro e w1 ⟨rfl, rfl⟩
  go_upto_region 5 with fail
  refine wp_region_any (by kernel_rfl) ?_
  change wpAny _ _ _ _ _ _ _ (World.drew _)
  rw [hW1]
  refine wpAny_rest 0 (by rfl) (by kernel_rfl) ?_
  simp only [List.drop_zero]
  repeat still_step
  refine wpStill_nil ?_
  go_upto_region 6 with fail
  refine wp_region_held_drew (S := fun w' => w'.cell? ⟨h0, 0, none⟩ = some (.string k) ∧ w'.cell? ⟨h0, 1, none⟩ = some (.bool false) ∧ w'.cell? ⟨C, 0, none⟩ = some (.string k) ∧ w'.cell? ⟨C, 1, none⟩ = some (.bool true)) (by kernel_rfl) ?_ (fun hHeld => ?_)
  · (try dsimp only); (try rw [hW2]); exact ⟨z0, z1, f0, f1⟩
  refine wpAnyH_take (i := 0) (oi := { dst := some 33, op := Op.move (Operand.tmp 7), type := 72, pos := "lock.go:57", after := #[], guard := none }) (v := ?_) rfl (by kernel_rfl) (by kernel_rfl) (by kernel_rfl) (fun _ _ _ h => h) (Or.inl ⟨by rfl, ?_⟩) (by assumption) ?_
  rotate_left 1
  · (intro w' hSw; (try obtain ⟨s0, s1, s2, s3⟩ := hSw); go_simp; try (with_reducible rfl))
  try simp only [Act.put, List.setIfInBounds_toArray, List.set_cons_zero, List.set_cons_succ]
  refine wpAnyH_take (i := 1) (oi := { dst := some 34, op := Op.binOp BinOp.neq 72 (Operand.tmp 33) (Operand.const (Value.pointer none)) 72, type := 4, pos := "lock.go:57", after := #[{ on := 0, ground := Ground.data }], guard := none }) (v := ?_) rfl (by kernel_rfl) (by kernel_rfl) (by kernel_rfl) (fun _ _ _ h => h) (Or.inl ⟨by rfl, ?_⟩) (by assumption) ?_
  rotate_left 1
  · (intro w' hSw; (try obtain ⟨s0, s1, s2, s3⟩ := hSw); go_simp; try (with_reducible rfl))
  try simp only [Act.put, List.setIfInBounds_toArray, List.set_cons_zero, List.set_cons_succ]
  refine wpAnyH_take (i := 2) (oi := { dst := some 35, op := Op.move (Operand.tmp 34), type := 4, pos := "lock.go:57", after := #[{ on := 1, ground := Ground.data }], guard := none }) (v := ?_) rfl (by kernel_rfl) (by kernel_rfl) (by kernel_rfl) (fun _ _ _ h => h) (Or.inl ⟨by rfl, ?_⟩) (by assumption) ?_
  rotate_left 1
  · (intro w' hSw; (try obtain ⟨s0, s1, s2, s3⟩ := hSw); go_simp; try (with_reducible rfl))
  try simp only [Act.put, List.setIfInBounds_toArray, List.set_cons_zero, List.set_cons_succ]
  refine wpAnyH_take (i := 3) (oi := { dst := some 36, op := Op.move (Operand.tmp 7), type := 72, pos := "lock.go:57", after := #[{ on := 2, ground := Ground.guard }], guard := some (2, true) }) (v := ?_) rfl (by kernel_rfl) (by kernel_rfl) (by kernel_rfl) (fun _ _ _ h => h) (Or.inl ⟨by rfl, ?_⟩) (by assumption) ?_
  rotate_left 1
  · (intro w' hSw; (try obtain ⟨s0, s1, s2, s3⟩ := hSw); go_simp; try (with_reducible rfl))
  try simp only [Act.put, List.setIfInBounds_toArray, List.set_cons_zero, List.set_cons_succ]
  refine wpAnyH_take (i := 4) (oi := { dst := some 37, op := Op.nilCheck (Operand.tmp 36), type := 0, pos := "lock.go:57", after := #[{ on := 3, ground := Ground.data }, { on := 2, ground := Ground.guard }], guard := some (2, true) }) (v := ?_) rfl (by kernel_rfl) (by kernel_rfl) (by kernel_rfl) (fun _ _ _ h => h) (Or.inl ⟨by rfl, ?_⟩) (by assumption) ?_
  rotate_left 1
  · (intro w' hSw; (try obtain ⟨s0, s1, s2, s3⟩ := hSw); go_simp; try (with_reducible rfl))
  try simp only [Act.put, List.setIfInBounds_toArray, List.set_cons_zero, List.set_cons_succ]
  refine wpAnyH_take (i := 5) (oi := { dst := some 38, op := Op.fieldAddr 75 (Operand.tmp 37) 0, type := 0, pos := "lock.go:57", after := #[{ on := 4, ground := Ground.data }, { on := 2, ground := Ground.guard }], guard := some (2, true) }) (v := ?_) rfl (by kernel_rfl) (by kernel_rfl) (by kernel_rfl) (fun _ _ _ h => h) (Or.inl ⟨by rfl, ?_⟩) (by assumption) ?_
  rotate_left 1
  · (intro w' hSw; (try obtain ⟨s0, s1, s2, s3⟩ := hSw); go_simp; try (with_reducible rfl))
  try simp only [Act.put, List.setIfInBounds_toArray, List.set_cons_zero, List.set_cons_succ]
  refine wpAnyH_take (i := 6) (oi := { dst := some 39, op := Op.fieldAddr 40 (Operand.tmp 38) 1, type := 0, pos := "lock.go:57", after := #[{ on := 5, ground := Ground.data }, { on := 2, ground := Ground.guard }], guard := some (2, true) }) (v := ?_) rfl (by kernel_rfl) (by kernel_rfl) (by kernel_rfl) (fun _ _ _ h => h) (Or.inl ⟨by rfl, ?_⟩) (by assumption) ?_
  rotate_left 1
  · (intro w' hSw; (try obtain ⟨s0, s1, s2, s3⟩ := hSw); go_simp; try (with_reducible rfl))
  try simp only [Act.put, List.setIfInBounds_toArray, List.set_cons_zero, List.set_cons_succ]
  refine wpAnyH_take (i := 7) (oi := { dst := some 40, op := Op.load 4 (Operand.tmp 39), type := 4, pos := "lock.go:57", after := #[{ on := 6, ground := Ground.data }, { on := 2, ground := Ground.guard }], guard := some (2, true) }) (v := ?_) rfl (by kernel_rfl) (by kernel_rfl) (by kernel_rfl) (fun _ _ _ h => h) (Or.inl ⟨by rfl, ?_⟩) (by assumption) ?_
  rotate_left 1
  · (intro w' hSw; (try obtain ⟨s0, s1, s2, s3⟩ := hSw); go_simp; try (with_reducible rfl))
  try simp only [Act.put, List.setIfInBounds_toArray, List.set_cons_zero, List.set_cons_succ]
  refine wpAnyH_take (i := 8) (oi := { dst := some 41, op := Op.move (Operand.tmp 40), type := 4, pos := "lock.go:57", after := #[{ on := 7, ground := Ground.data }, { on := 2, ground := Ground.chain }, { on := 2, ground := Ground.guard }], guard := some (2, true) }) (v := ?_) rfl (by kernel_rfl) (by kernel_rfl) (by kernel_rfl) (fun _ _ _ h => h) (Or.inl ⟨by rfl, ?_⟩) (by assumption) ?_
  rotate_left 1
  · (intro w' hSw; (try obtain ⟨s0, s1, s2, s3⟩ := hSw); go_simp; try (with_reducible rfl))
  try simp only [Act.put, List.setIfInBounds_toArray, List.set_cons_zero, List.set_cons_succ]
  refine wpAnyH_take (i := 9) (oi := { dst := some 42, op := Op.move (Operand.tmp 7), type := 72, pos := "lock.go:57", after := #[{ on := 8, ground := Ground.guard }], guard := some (8, false) }) (v := ?_) rfl (by kernel_rfl) (by kernel_rfl) (by kernel_rfl) (fun _ _ _ h => h) (Or.inl ⟨by rfl, ?_⟩) (by assumption) ?_
  rotate_left 1
  · (intro w' hSw; (try obtain ⟨s0, s1, s2, s3⟩ := hSw); go_simp; try (with_reducible rfl))
  try simp only [Act.put, List.setIfInBounds_toArray, List.set_cons_zero, List.set_cons_succ]
  refine wpAnyH_take (i := 10) (oi := { dst := some 43, op := Op.nilCheck (Operand.tmp 42), type := 0, pos := "lock.go:57", after := #[{ on := 9, ground := Ground.data }, { on := 8, ground := Ground.guard }], guard := some (8, false) }) (v := ?_) rfl (by kernel_rfl) (by kernel_rfl) (by kernel_rfl) (fun _ _ _ h => h) (Or.inl ⟨by rfl, ?_⟩) (by assumption) ?_
  rotate_left 1
  · (intro w' hSw; (try obtain ⟨s0, s1, s2, s3⟩ := hSw); go_simp; try (with_reducible rfl))
  try simp only [Act.put, List.setIfInBounds_toArray, List.set_cons_zero, List.set_cons_succ]
  refine wpAnyH_take (i := 11) (oi := { dst := some 44, op := Op.fieldAddr 75 (Operand.tmp 43) 0, type := 0, pos := "lock.go:57", after := #[{ on := 10, ground := Ground.data }, { on := 8, ground := Ground.guard }], guard := some (8, false) }) (v := ?_) rfl (by kernel_rfl) (by kernel_rfl) (by kernel_rfl) (fun _ _ _ h => h) (Or.inl ⟨by rfl, ?_⟩) (by assumption) ?_
  rotate_left 1
  · (intro w' hSw; (try obtain ⟨s0, s1, s2, s3⟩ := hSw); go_simp; try (with_reducible rfl))
  try simp only [Act.put, List.setIfInBounds_toArray, List.set_cons_zero, List.set_cons_succ]
  refine wpAnyH_take (i := 12) (oi := { dst := some 45, op := Op.load 40 (Operand.tmp 44), type := 40, pos := "lock.go:57", after := #[{ on := 11, ground := Ground.data }, { on := 8, ground := Ground.guard }], guard := some (8, false) }) (v := ?_) rfl (by kernel_rfl) (by kernel_rfl) (by kernel_rfl) (fun _ _ _ h => h) (Or.inl ⟨by rfl, ?_⟩) (by assumption) ?_
  rotate_left 1
  · (intro w' hSw; (try obtain ⟨s0, s1, s2, s3⟩ := hSw); go_simp; try (with_reducible rfl))
  try simp only [Act.put, List.setIfInBounds_toArray, List.set_cons_zero, List.set_cons_succ]
  refine wpAnyH_take (i := 13) (oi := { dst := some 46, op := Op.load 40 (Operand.tmp 5), type := 40, pos := "lock.go:57", after := #[{ on := 8, ground := Ground.guard }], guard := some (8, false) }) (v := ?_) rfl (by kernel_rfl) (by kernel_rfl) (by kernel_rfl) (fun _ _ _ h => h) (Or.inl ⟨by rfl, ?_⟩) (by assumption) ?_
  rotate_left 1
  · (intro w' hSw; (try obtain ⟨s0, s1, s2, s3⟩ := hSw); go_simp; try (with_reducible rfl))
  try simp only [Act.put, List.setIfInBounds_toArray, List.set_cons_zero, List.set_cons_succ]
  refine wpAnyH_take (i := 14) (oi := { dst := some 47, op := Op.binOp BinOp.eql 40 (Operand.tmp 45) (Operand.tmp 46) 40, type := 4, pos := "lock.go:57", after := #[{ on := 12, ground := Ground.data }, { on := 13, ground := Ground.data }, { on := 8, ground := Ground.guard }], guard := some (8, false) }) (v := ?_) rfl (by kernel_rfl) (by kernel_rfl) (by kernel_rfl) (fun _ _ _ h => h) (Or.inl ⟨by rfl, ?_⟩) (by assumption) ?_
  rotate_left 1
  · (intro w' hSw; (try obtain ⟨s0, s1, s2, s3⟩ := hSw); go_simp; try (with_reducible rfl))
  try simp only [Act.put, List.setIfInBounds_toArray, List.set_cons_zero, List.set_cons_succ]
  refine wpAnyH_take (i := 15) (oi := { dst := some 48, op := Op.pick (Operand.tmp 41) (Operand.const (Value.bool true)) (Operand.tmp 47), type := 4, pos := "lock.go:57", after := #[{ on := 8, ground := Ground.data }, { on := 14, ground := Ground.data }, { on := 2, ground := Ground.guard }], guard := some (2, true) }) (v := ?_) rfl (by kernel_rfl) (by kernel_rfl) (by kernel_rfl) (fun _ _ _ h => h) (Or.inl ⟨by rfl, ?_⟩) (by assumption) ?_
  rotate_left 1
  · (intro w' hSw; (try obtain ⟨s0, s1, s2, s3⟩ := hSw); go_simp; try (with_reducible rfl))
  try simp only [Act.put, List.setIfInBounds_toArray, List.set_cons_zero, List.set_cons_succ]
  refine wpAnyH_take (i := 16) (oi := { dst := some 49, op := Op.pick (Operand.tmp 35) (Operand.tmp 48) (Operand.const (Value.bool false)), type := 4, pos := "lock.go:57", after := #[{ on := 2, ground := Ground.data }, { on := 15, ground := Ground.data }], guard := none }) (v := ?_) rfl (by kernel_rfl) (by kernel_rfl) (by kernel_rfl) (fun _ _ _ h => h) (Or.inl ⟨by rfl, ?_⟩) (by assumption) ?_
  rotate_left 1
  · (intro w' hSw; (try obtain ⟨s0, s1, s2, s3⟩ := hSw); go_simp; try (with_reducible rfl))
  try simp only [Act.put, List.setIfInBounds_toArray, List.set_cons_zero, List.set_cons_succ]
  refine wpAnyH_done (by kernel_rfl) ?_ _
  clear hHeld
  go_upto_region 8 with fail
  change Code.wp _ _ _ _ (World.drew _)
  rw [hW2]
  go_wp2_with fail
  refine KO.out.mono ?_
  rintro e w2 ⟨K, rfl, h2, hb2, hs2, hf2⟩
  have g0 := (World.cell?_of_block (a := ⟨C, 0, none⟩) (hf2 C (by omega) hCml)).trans f0
  have g1 := (World.cell?_of_block (a := ⟨C, 1, none⟩) (hf2 C (by omega) hCml)).trans f1
  have KK := Lib.hid (kept_any k true w2 (by have := HS.out; omega))
  clear KO KM hf2
  go_wp2_with fail
  refine KK.out.mono ?_
  rintro e w3 ⟨rfl, hb3⟩
  have hbw : Below w3.heap.size w3 (w3.alloc (.cells #[.string k, .bool true, .int .i64 o, .pointer none, .pointer none] 75)) := (Below.refl _ _).alloc (Nat.le_refl _) _
  have h3 := h2.below hb3
  have A1 : Hid (AskA B W (w3.alloc (.cells #[.string k, .bool true, .int .i64 o, .pointer none, .pointer none] 75)) T ml mh mw n K w3.heap.size s k true o) :=
    ⟨h3.below hbw, ⟨⟨new_cell rfl rfl, new_cell rfl rfl, new_cell rfl rfl⟩, ⟨_, new_cell rfl rfl⟩, ⟨_, new_cell rfl rfl⟩, fun i => World.frozen?_alloc_at _ _ _ _ rfl⟩, fun i k' hi hm => by
      have := (h3.wc i k' _ hi hm).lt
      omega, fun b c e => by
      have := h3.ps.lt (b := b) (c := c) e
      omega, h3.lts, ((HBe.out.trans hb2).trans (hb3.mono h2.lts)).trans (hbw.mono h3.lts)⟩
  clear h2 hb2 hs2 hb3 hbw h3 KK
  go_upto_region 10 with fail
  generalize w3.alloc (.cells #[.string k, .bool true, .int .i64 o, .pointer none, .pointer none] 75) = Z at *
  generalize w3.heap.size = w at *
  have KR := Lib.hid A1.out.free
  rw [hfree] at KR
  go_wp2_with fail
  refine KR.out.mono ?_
  rintro e w4 ⟨rfl, hb4⟩
  have A2 := Lib.hid (A1.out.below hb4)
  clear A1 KR hb4
  have KL := Lib.hid (A2.out.line1 HH.out HS.out hwf)
  go_wp2_with fail
  refine KL.out.mono ?_
  rintro e w5 ⟨rfl, hb5⟩
  have A3 := Lib.hid (A2.out.below hb5)
  have NF := Lib.hid A3.out.nf
  have KP := Lib.hid A3.out.put1
  clear A2 KL hb5 A3
  go_wp2_with fail
  refine KP.out.mono ?_
  rintro e w6 ⟨rfl, h6, hb6⟩
  have u2 := h6.t2
  obtain ⟨X, hst, hmX, hgX, hsX⟩ := h6.m2.store waitsMap o hwf w (by have := HN.out; unfold maxLen; omega)
  replace hst : (Instr.mapUpdate 58 (.map (some mw)) (.int .i64 o) (.pointer (some ⟨w, 0, none⟩))).run Try.prog w6 = .ok () X := hst
  have h7 := h6.setWait (z := some w) hmX hgX
  have HP : Hid (AskV B T ml mh mw n s k true o W (.returned (.int .i64 10)) X) := ⟨rfl, K, w, h7.mono (Nat.le_succ _), NF.out, hb6.trans (h6.grownB h6.bt.2.2.2 hgX)⟩
  clear h6 hmX hgX hsX h7 hb6 KP
  go_wp2
  go_ret
  exact HP.out
end
end Go.Proofs.Ytjojempjmpaaaaa
