/-
  A TABLE OF LOCKS: Ask of nobody, and of one that waits; what an owner waits for.
-/
import Derived.Test.YtjojempjmpaaaaaLkAsk
namespace Go.Proofs.Ytjojempjmpaaaaa
open Go.RowKit
section
variable {B : Nat} {W X : World} {T ml mh mw n : Nat} {s : Lk} {k : ByteArray} {b : Bool} {o : Int}
set_option maxRecDepth 100000 in
theorem ask_neg (h : LkAt B W T ml mh mw n s) (ho : o < 0) :
    Calls Try.prog 12 #[.pointer (some ⟨T, 0, none⟩), .int .i64 o, .agg #[.string k, .bool b]] W fun e W' => e = .returned (.int .i64 1) ∧ Below W.heap.size W W' := by
  have hba : Below W.heap.size W (W.alloc (.cells #[.string k, .bool b] 40)) := (Below.refl _ _).alloc (Nat.le_refl _) _
  have KM := Lib.hid (made_any (h.below hba))
  have HB := Lib.hid hba
  clear h hba
  go_enter Try.func12, Try.ntmps12
  go_wp2_with fail
  refine KM.out.mono ?_
  rintro e w1 ⟨rfl, rfl⟩
  go_wp2
  go_ret
  exact ⟨rfl, HB.out⟩
set_option maxRecDepth 100000 in
theorem ask_state (h : LkAt B W T ml mh mw n s) (ho : 0 ≤ o) (hwf : (Lit.int .i64 o).wf = true) {w : Nat} (hw : s.wt o = some w) :
    Calls Try.prog 12 #[.pointer (some ⟨T, 0, none⟩), .int .i64 o, .agg #[.string k, .bool b]] W fun e W' => e = .returned (.int .i64 12) ∧ Below W.heap.size W W' := by
  have hba : Below W.heap.size W (W.alloc (.cells #[.string k, .bool b] 40)) := (Below.refl _ _).alloc (Nat.le_refl _) _
  have h1 := h.below hba
  have KM := Lib.hid (made_any h1)
  have HB := Lib.hid hba
  have l2 := h1.m2.look waitsMap o hwf
  rw [hw] at l2
  replace l2 : (Instr.lookup 58 (.map (some mw)) (.int .i64 o) false).run Try.prog (W.alloc (.cells #[.string k, .bool b] 40)) = .ok (.pointer (some ⟨w, 0, none⟩)) (W.alloc (.cells #[.string k, .bool b] 40)) := l2
  have t2 := h1.t2
  clear h hba h1 hw
  go_enter Try.func12, Try.ntmps12
  go_upto_region 1 with fail
  generalize W.alloc (.cells #[.string k, .bool b] 40) = Y at *
  go_wp2_with fail
  refine KM.out.mono ?_
  rintro e w1 ⟨rfl, rfl⟩
  go_wp2
  go_ret
  exact ⟨rfl, HB.out⟩
set_option maxRecDepth 100000 in
/-- What an owner waits for. -/
theorem waits_no (h : LkAt B W T ml mh mw n s) (hwf : (Lit.int .i64 o).wf = true) (hw : s.wt o = none) :
    Calls Try.prog 17 #[.pointer (some ⟨T, 0, none⟩), .int .i64 o] W fun e W' => e = .returned (.tuple #[.agg #[.string ⟨#[]⟩, .bool false], .bool false]) ∧ Below W.heap.size W W' := by
  have hba : Below W.heap.size W (W.alloc (.cells #[.string ⟨#[]⟩, .bool false] 40)) := (Below.refl _ _).alloc (Nat.le_refl _) _
  have h1 := h.below hba
  have KM := Lib.hid (made_any h1)
  have HB := Lib.hid hba
  have z0 : (W.alloc (.cells #[.string ⟨#[]⟩, .bool false] 40)).cell? ⟨W.heap.size, 0, none⟩ = some (.string ⟨#[]⟩) := new_cell rfl rfl
  have z1 : (W.alloc (.cells #[.string ⟨#[]⟩, .bool false] 40)).cell? ⟨W.heap.size, 1, none⟩ = some (.bool false) := new_cell rfl rfl
  have l2 := h1.m2.look waitsMap o hwf
  rw [hw] at l2
  replace l2 : (Instr.lookup 58 (.map (some mw)) (.int .i64 o) false).run Try.prog (W.alloc (.cells #[.string ⟨#[]⟩, .bool false] 40)) = .ok (.pointer none) (W.alloc (.cells #[.string ⟨#[]⟩, .bool false] 40)) := l2
  have t2 := h1.t2
  clear h hba h1 hw
  go_enter Try.func17, Try.ntmps17
  go_wp2_with fail
  refine KM.out.mono ?_
  rintro e w1 ⟨rfl, rfl⟩
  go_wp2
  refine bodyPost_ret (v := .tuple #[.agg #[.string ⟨#[]⟩, .bool false], .bool false]) ?_ rfl ⟨rfl, HB.out⟩
  simp [results, Try.results17, go_sem, z0, z1]
set_option maxRecDepth 100000 in
theorem waits_yes (h : LkAt B W T ml mh mw n s) (hwf : (Lit.int .i64 o).wf = true) {w : Nat} {x : Wc} (hw : s.wt o = some w) (hx : WtAt W w x) :
    Calls Try.prog 17 #[.pointer (some ⟨T, 0, none⟩), .int .i64 o] W fun e W' => e = .returned (.tuple #[.agg #[.string x.k, .bool x.wr], .bool true]) ∧ Below W.heap.size W W' := by
  have hba : Below W.heap.size W (W.alloc (.cells #[.string ⟨#[]⟩, .bool false] 40)) := (Below.refl _ _).alloc (Nat.le_refl _) _
  have h1 := h.below hba
  have hx1 := hx.below hba
  have hlt := hx.lt
  have KM := Lib.hid (made_any h1)
  have z0 : (W.alloc (.cells #[.string ⟨#[]⟩, .bool false] 40)).cell? ⟨W.heap.size, 0, none⟩ = some (.string ⟨#[]⟩) := new_cell rfl rfl
  have z1 : (W.alloc (.cells #[.string ⟨#[]⟩, .bool false] 40)).cell? ⟨W.heap.size, 1, none⟩ = some (.bool false) := new_cell rfl rfl
  have zf : ∀ i, (W.alloc (.cells #[.string ⟨#[]⟩, .bool false] 40)).frozen? ⟨W.heap.size, i, none⟩ = false := fun i => World.frozen?_alloc_at _ _ _ _ rfl
  have l2 := h1.m2.look waitsMap o hwf
  rw [hw] at l2
  replace l2 : (Instr.lookup 58 (.map (some mw)) (.int .i64 o) false).run Try.prog (W.alloc (.cells #[.string ⟨#[]⟩, .bool false] 40)) = .ok (.pointer (some ⟨w, 0, none⟩)) (W.alloc (.cells #[.string ⟨#[]⟩, .bool false] 40)) := l2
  have t2 := h1.t2
  have c0 := hx1.c0
  have c1 := hx1.c1
  have hne : w ≠ W.heap.size := by omega
  have HB := Lib.hid ((hba.setCell (p := ⟨W.heap.size, 0, none⟩) (Nat.le_refl _) (.string x.k)).setCell (p := ⟨W.heap.size, 1, none⟩) (Nat.le_refl _) (.bool x.wr))
  have x0 := sc_ne (g := W.heap.size) (i := 1) (u := .bool x.wr) (sc_eq (u := .string x.k) z0) (.inr (by decide))
  have x1 := sc_eq (u := .bool x.wr) (sc_ne (g := W.heap.size) (i := 0) (u := .string x.k) z1 (.inr (by decide)))
  clear h hba h1 hw hx hx1
  go_enter Try.func17, Try.ntmps17
  go_upto_region 1 with fail
  generalize W.alloc (.cells #[.string ⟨#[]⟩, .bool false] 40) = Y at *
  generalize hC : W.heap.size = C at *
  go_wp2_with fail
  refine KM.out.mono ?_
  rintro e w1 ⟨rfl, rfl⟩
  go_wp2
  refine bodyPost_ret (v := .tuple #[.agg #[.string x.k, .bool x.wr], .bool true]) ?_ rfl ⟨rfl, by rw [hC]; exact HB.out⟩
  simp [results, Try.results17, go_sem, x0, x1]
end
end Go.Proofs.Ytjojempjmpaaaaa
