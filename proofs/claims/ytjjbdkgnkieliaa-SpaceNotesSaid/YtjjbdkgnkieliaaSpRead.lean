/-
  THE CONTRACTS OF a book's made, Need, All, others, Room, May.
-/
import Derived.Test.YtjjbdkgnkieliaaSpNoteW
import Derived.BigQuiet
import Derived.WalkSpells
import Derived.Deep.RegionHeld3
namespace Go.Proofs.Ytjjbdkgnkieliaa
open Go.RowKit Go.Maps Go.ChangeMaps Go.MapKept Go.WideElems
theorem neq_txns (w : World) (r : Option Nat) : (binOp .neq 53 (.map r) (.map none)).run Try.prog w = .ok (.bool (!r.isNone)) w := run_neq_map_nil w _ _ _ r Try.underlying53
theorem field_need (o : Option Nat) (W : World) : (Instr.field 62 (.agg #[.map o]) 0).run Try.prog W = .ok (.map o) W := by kernel_rfl
theorem below_drewN {w W : World} {B : Nat} (h : Below B w W) (n : Nat) : Below B w (W.drewN n) := ⟨h.os, h.tape, h.output, h.size, h.block⟩
section
variable {W : World} {S T A n : Nat} {o : Int → Option Nat} {g : Int → Int → Int} {a : Int → Int}
theorem made_yes (hc : W.cell? ⟨S, 0, none⟩ = some (.map (some T))) : Calls Try.prog 21 #[.pointer (some ⟨S, 0, none⟩)] W fun e w' => e = .returned (.bool true) ∧ W = w' := by
  have hq := @neq_txns
  go_enter Try.func21, Try.ntmps21
  go_wp2
  go_ret
  exact ⟨rfl, rfl⟩
theorem made_no (W : World) : Calls Try.prog 21 #[.pointer none] W fun e w' => e = .returned (.bool false) ∧ W = w' := by
  go_enter Try.func21, Try.ntmps21
  go_wp2
  go_ret
  exact ⟨rfl, rfl⟩
theorem need_any (h : SpIn W S T A n o g a) (t p : Int) (ht : (Lit.int .i64 t).wf = true) (hp : (Lit.int .i64 p).wf = true) : Calls Try.prog 13 #[.pointer (some ⟨S, 0, none⟩), .int .i64 t, .int .i64 p] W fun e w' => e = .returned (.int .i64 (g t p)) ∧ W = w' := by
  have hc0 := h.c0
  have KM := Lib.hid (made_yes hc0)
  have hlk := h.ot.look t ht
  cases ho : o t with
  | some b =>
    rw [ho] at hlk
    have KO := Lib.hid (of_any (h.inn t b ho) p hp)
    clear h ho
    have hfd := @field_need
    go_enter Try.func13, Try.ntmps13
    go_wp2_with fail
    refine KM.out.mono ?_
    rintro x w1 ⟨rfl, rfl⟩
    go_wp2_with fail
    refine KO.out.mono ?_
    rintro x w1 ⟨rfl, rfl⟩
    go_wp2
    go_ret
    exact ⟨rfl, rfl⟩
  | none =>
    rw [ho] at hlk
    have hz := h.non t ho p
    have KO := Lib.hid (of_nil W p hp)
    clear h ho
    have hfd := @field_need
    go_enter Try.func13, Try.ntmps13
    go_wp2_with fail
    refine KM.out.mono ?_
    rintro x w1 ⟨rfl, rfl⟩
    go_wp2_with fail
    refine KO.out.mono ?_
    rintro x w1 ⟨rfl, rfl⟩
    go_wp2
    go_ret
    exact ⟨ret_i64 (by rw [hz]), rfl⟩
theorem all_any (h : SpIn W S T A n o g a) (p : Int) (hp : (Lit.int .i64 p).wf = true) : Calls Try.prog 12 #[.pointer (some ⟨S, 0, none⟩), .int .i64 p] W fun e w' => e = .returned (.int .i64 (a p)) ∧ W = w' := by
  have KM := Lib.hid (made_yes h.c0)
  have hc1 := h.c1
  have KO := Lib.hid (of_any h.al p hp)
  clear h
  go_enter Try.func12, Try.ntmps12
  go_wp2_with fail
  refine KM.out.mono ?_
  rintro x w1 ⟨rfl, rfl⟩
  go_wp2_with fail
  refine KO.out.mono ?_
  rintro x w1 ⟨rfl, rfl⟩
  go_wp2
  go_ret
  exact ⟨rfl, rfl⟩
theorem others_any (h : SpIn W S T A n o g a) (hn : n ≤ 2000000) (t p : Int) (ht : (Lit.int .i64 t).wf = true) (hp : (Lit.int .i64 p).wf = true) : Calls Try.prog 23 #[.pointer (some ⟨S, 0, none⟩), .int .i64 t, .int .i64 p] W fun e w' => e = .returned (.int .i64 (a p - g t p)) ∧ W = w' := by
  have KA := Lib.hid (all_any h p hp)
  have KN := Lib.hid (need_any h t p ht hp)
  have hw : IntKind.i64.wrap (a p - g t p) = a p - g t p := IntWalk.i64_in _ (by have := h.gb t p; have := h.ab p; omega)
  clear h
  go_enter Try.func23, Try.ntmps23
  go_wp2_with fail
  refine KA.out.mono ?_
  rintro x w1 ⟨rfl, rfl⟩
  go_wp2_with fail
  refine KN.out.mono ?_
  rintro x w1 ⟨rfl, rfl⟩
  go_wp2
  go_ret
  exact ⟨rfl, rfl⟩
set_option maxHeartbeats 1000000 in
theorem room_any (h : SpIn W S T A n o g a) (hn : n ≤ 2000000) (t p gs : Int) (ca : Option Addr) (c cc : Nat) (hc : c ≤ 100) (ht : (Lit.int .i64 t).wf = true) (hp : (Lit.int .i64 p).wf = true) :
    Calls Try.prog 14 #[.pointer (some ⟨S, 0, none⟩), .int .i64 t, .agg #[.int .i64 p, .int .i64 gs, .slice ca c cc]] W fun e w' => e = .returned (.int .i64 (max 0 (8 - (c : Int) - (a p - g t p)))) ∧ Below W.heap.size W w' := by
  obtain ⟨X, hX⟩ : ∃ X, X = W.alloc (.cells #[.int .i64 p, .int .i64 gs, .slice ca c cc] 36) := ⟨_, rfl⟩
  have hb : Below W.heap.size W X := by rw [hX]; exact (Below.refl _ _).alloc (Nat.le_refl _) _
  have hx := h.below hb
  have KM := Lib.hid (made_yes hx.c0)
  have p0 : X.cell? ⟨W.heap.size, 0, none⟩ = some (.int .i64 p) := by rw [hX]; exact new_cell rfl rfl
  have p2 : X.cell? ⟨W.heap.size, 2, none⟩ = some (.slice ca c cc) := by rw [hX]; exact new_cell rfl rfl
  have KO := Lib.hid (fun m => (others_any (hx.below (below_drewN (Below.refl X.heap.size X) m)) hn t p ht hp).mono fun _ _ h => (⟨h.1, h.2.symm⟩ : _ ∧ _))
  change Hid (∀ m, Calls Try.prog 23 #[.pointer (some ⟨S, 0, none⟩), .int .i64 t, .int .i64 p] (X.drewN m) fun e w' => e = .returned (.int .i64 (a p - g t p)) ∧ w' = X.drewN m) at KO
  have hw1 : IntKind.i64.wrap (8 - (c : Int)) = 8 - (c : Int) := IntWalk.i64_in _ (by omega)
  have hw2 : IntKind.i64.wrap (8 - (c : Int) - (a p - g t p)) = 8 - (c : Int) - (a p - g t p) := IntWalk.i64_in _ (by have := h.gb t p; have := h.ab p; omega)
  generalize a p - g t p = d at KO hw2 ⊢
  obtain ⟨mx, hmx⟩ : ∃ mx, (if d < 8 - (c : Int) then 8 - (c : Int) - d else 0) = mx := ⟨_, rfl⟩
  have hmax : max 0 (8 - (c : Int) - d) = mx := by rw [← hmx]; split <;> omega
  rw [hmax]
  clear hmax
  have HB := Lib.hid hb
  clear h hx hb
  go_enter Try.func14, Try.ntmps14
  go_upto_region 1 with fail
  rw [← hX]
  obtain ⟨B, hB⟩ : ∃ B, B = W.heap.size := ⟨_, rfl⟩
  rw [← hB] at p0 p2 ⊢
  clear hX hB
  go_wp2_with fail
  refine KM.out.mono ?_
  rintro x w1 ⟨rfl, rfl⟩
  go_upto_region 3 with fail
  go_quiet ((go_at_call 23; exact Calls.quiet_of_same (KO.out _)))
  go_wp2
  go_ret
  exact ⟨rfl, below_drewN HB.out _⟩
set_option maxHeartbeats 1000000 in
theorem may_any (h : SpIn W S T A n o g a) (hn : n ≤ 2000000) (t p gs : Int) (ca : Option Addr) (c cc : Nat) (hc : c ≤ 100) (ht : (Lit.int .i64 t).wf = true) (hp : (Lit.int .i64 p).wf = true) :
    Calls Try.prog 15 #[.pointer (some ⟨S, 0, none⟩), .int .i64 t, .agg #[.int .i64 p, .int .i64 gs, .slice ca c cc]] W fun e w' => e = .returned (.bool (decide ((c : Int) + 1 + (a p - g t p) + max 0 (g t p - 1) ≤ 8))) ∧ Below W.heap.size W w' := by
  obtain ⟨X, hX⟩ : ∃ X, X = W.alloc (.cells #[.int .i64 p, .int .i64 gs, .slice ca c cc] 36) := ⟨_, rfl⟩
  have hb : Below W.heap.size W X := by rw [hX]; exact (Below.refl _ _).alloc (Nat.le_refl _) _
  have hx := h.below hb
  have KM := Lib.hid (made_yes hx.c0)
  have p0 : X.cell? ⟨W.heap.size, 0, none⟩ = some (.int .i64 p) := by rw [hX]; exact new_cell rfl rfl
  have p2 : X.cell? ⟨W.heap.size, 2, none⟩ = some (.slice ca c cc) := by rw [hX]; exact new_cell rfl rfl
  have KN := Lib.hid (need_any hx t p ht hp)
  have KO := Lib.hid (fun m => (others_any (hx.below (below_drewN (Below.refl X.heap.size X) m)) hn t p ht hp).mono fun _ _ h => (⟨h.1, h.2.symm⟩ : _ ∧ _))
  change Hid (∀ m, Calls Try.prog 23 #[.pointer (some ⟨S, 0, none⟩), .int .i64 t, .int .i64 p] (X.drewN m) fun e w' => e = .returned (.int .i64 (a p - g t p)) ∧ w' = X.drewN m) at KO
  have b1 := h.gb t p
  have b2 := h.ab p
  obtain ⟨d, hd⟩ : ∃ d, d = a p - g t p := ⟨_, rfl⟩
  obtain ⟨y, hy⟩ : ∃ y, y = g t p := ⟨_, rfl⟩
  rw [← hd] at KO ⊢
  rw [← hy] at KN hd b1 ⊢
  have hw1 : IntKind.i64.wrap (y - 1) = y - 1 := IntWalk.i64_in _ (by omega)
  have hw2 : IntKind.i64.wrap ((c : Int) + 1) = (c : Int) + 1 := IntWalk.i64_in _ (by omega)
  have hw3 : IntKind.i64.wrap ((c : Int) + 1 + d) = (c : Int) + 1 + d := IntWalk.i64_in _ (by omega)
  obtain ⟨mx, hmx⟩ : ∃ mx, (if 1 < y then y - 1 else 0) = mx := ⟨_, rfl⟩
  have hmax : max 0 (y - 1) = mx := by rw [← hmx]; split <;> omega
  rw [hmax]
  have hw4 : IntKind.i64.wrap ((c : Int) + 1 + d + mx) = (c : Int) + 1 + d + mx := IntWalk.i64_in _ (by omega)
  have HB := Lib.hid hb
  clear h hx hb b1 b2 hy hd hmax
  go_enter Try.func15, Try.ntmps15
  go_upto_region 1 with fail
  rw [← hX]
  obtain ⟨B, hB⟩ : ∃ B, B = W.heap.size := ⟨_, rfl⟩
  rw [← hB] at p0 p2 ⊢
  clear hX hB
  go_wp2_with fail
  refine KM.out.mono ?_
  rintro x w1 ⟨rfl, rfl⟩
  go_wp2_with fail
  refine KN.out.mono ?_
  rintro x w1 ⟨rfl, rfl⟩
  go_upto_region 4 with fail
  go_quiet ((go_at_call 23; exact Calls.quiet_of_same (KO.out _)))
  go_wp2
  go_ret
  exact ⟨rfl, below_drewN HB.out _⟩
end
end Go.Proofs.Ytjjbdkgnkieliaa
