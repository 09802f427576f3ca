/-
  A TABLE OF LOCKS: New, made, strings.Clone, kept, lockOf.
-/
import Derived.Test.YtgabdlnbencglaaLkState
import Derived.Test.YtgabdlnbencglaaJoin
namespace Go.Proofs.Ytgabdlnbencglaa
open Go.RowKit
theorem clone_str (s : ByteArray) (W : World) (hs : s.size ≤ 281474976710656) : Calls Try.prog 53 #[.string s] W fun x w' => x = .returned (.string s) ∧ Below W.heap.size W w' := by
  have KC := Lib.hid (Try.stringslite_Clone s W hs)
  go_enter Try.func53, Try.ntmps53
  go_wp2_with fail
  refine KC.out.mono ?_
  rintro x w1 ⟨rfl, hb⟩
  go_wp2
  go_ret
  exact ⟨rfl, hb⟩
set_option maxRecDepth 100000 in
theorem new_table (W : World) : Calls Try.prog 9 #[] W fun e W' => ∃ T ml mh mw, e = .returned (.pointer (some ⟨T, 0, none⟩)) ∧ LkAt W.heap.size W' T ml mh mw 0 Lk.none ∧ Below W.heap.size W W' := by
  have hmm := @run_makeMap Try.prog
  have b1 := (Below.refl W.heap.size W).alloc (Nat.le_refl _) (.map #[] 0)
  have b2 := b1.alloc b1.size (.map #[] 0)
  have b3 := b2.alloc b2.size (.map #[] 0)
  have b4 := b3.alloc b3.size (.cells #[.map (some W.heap.size), .map (some (W.heap.size + 1)), .map (some (W.heap.size + 1 + 1))] 60)
  have HB := Lib.hid b4
  have c1 : Below (W.alloc (.map #[] 0)).heap.size (W.alloc (.map #[] 0)) ((W.alloc (.map #[] 0)).alloc (.map #[] 0)) := (Below.refl _ _).alloc (Nat.le_refl _) _
  have c2 : Below ((W.alloc (.map #[] 0)).alloc (.map #[] 0)).heap.size ((W.alloc (.map #[] 0)).alloc (.map #[] 0)) (((W.alloc (.map #[] 0)).alloc (.map #[] 0)).alloc (.map #[] 0)) := (Below.refl _ _).alloc (Nat.le_refl _) _
  have c3 : Below (((W.alloc (.map #[] 0)).alloc (.map #[] 0)).alloc (.map #[] 0)).heap.size (((W.alloc (.map #[] 0)).alloc (.map #[] 0)).alloc (.map #[] 0)) ((((W.alloc (.map #[] 0)).alloc (.map #[] 0)).alloc (.map #[] 0)).alloc (.cells #[.map (some W.heap.size), .map (some (W.heap.size + 1)), .map (some (W.heap.size + 1 + 1))] 60)) := (Below.refl _ _).alloc (Nat.le_refl _) _
  have m1 : MAt sKy pV (W.alloc (.map #[] 0)) W.heap.size 0 (fun _ => none) := MAt.made W
  have m2 : MAt iKy mV ((W.alloc (.map #[] 0)).alloc (.map #[] 0)) (W.alloc (.map #[] 0)).heap.size 0 (fun _ => none) := MAt.made _
  have m3 : MAt iKy pV (((W.alloc (.map #[] 0)).alloc (.map #[] 0)).alloc (.map #[] 0)) ((W.alloc (.map #[] 0)).alloc (.map #[] 0)).heap.size 0 (fun _ => none) := MAt.made _
  have k1 := ((m1.of_block (c1.block _ m1.lt)).of_block (c2.block _ (m1.of_block (c1.block _ m1.lt)).lt)).of_block (c3.block _ ((m1.of_block (c1.block _ m1.lt)).of_block (c2.block _ (m1.of_block (c1.block _ m1.lt)).lt)).lt)
  have k2 := (m2.of_block (c2.block _ m2.lt)).of_block (c3.block _ (m2.of_block (c2.block _ m2.lt)).lt)
  have k3 := m3.of_block (c3.block _ m3.lt)
  simp only [World.size_alloc] at k2 k3
  have HT : Hid (LkAt W.heap.size ((((W.alloc (.map #[] 0)).alloc (.map #[] 0)).alloc (.map #[] 0)).alloc (.cells #[.map (some W.heap.size), .map (some (W.heap.size + 1)), .map (some (W.heap.size + 1 + 1))] 60)) (W.heap.size + 1 + 1 + 1) W.heap.size (W.heap.size + 1) (W.heap.size + 1 + 1) 0 Lk.none) := {
    t0 := new_cell (by simp only [World.size_alloc]) rfl
    t1 := new_cell (by simp only [World.size_alloc]) rfl
    t2 := new_cell (by simp only [World.size_alloc]) rfl
    m0 := k1
    m1 := k2
    m2 := k3
    md := fun _ _ e => by cases e
    qa := fun _ _ e => by cases e
    qn := fun _ _ _ => rfl
    hn := fun _ _ _ => rfl
    wc := fun _ _ _ _ hx => by cases hx
    li := fun _ _ _ e => by cases e
    hi := fun _ _ _ e => by cases e
    qd := fun _ _ _ _ _ _ _ hx => by cases hx
    mn := by omega
    hne := fun _ _ e => by cases e
    bt := by omega
    bk := fun _ _ e => by cases e
    bm := fun _ _ e => by cases e
    bw := fun _ _ _ _ hx => by cases hx
    ps := ⟨fun _ _ e => (by cases e), fun _ _ e => (by cases e), fun _ _ e => (by cases e), fun _ _ _ _ e => (by cases e), fun _ _ _ _ _ e => (by cases e)⟩ }
  clear b1 b2 b3 b4 c1 c2 c3 m1 m2 m3 k1 k2 k3
  go_enter Try.func9, Try.ntmps9
  go_wp2
  go_ret
  exact ⟨_, _, _, _, rfl, HT.out, HB.out⟩
section
variable {B : Nat} {W X : World} {T ml mh mw n : Nat} {s : Lk}
set_option maxRecDepth 100000 in
theorem made_any (h : LkAt B W T ml mh mw n s) : Calls Try.prog 27 #[.pointer (some ⟨T, 0, none⟩)] W fun e W' => e = .returned (.bool true) ∧ W = W' := by
  have t0 := h.t0
  have qT : ∀ (w : World) (r : Option Nat), (binOp .neq 56 (.map r) (.map none)).run Try.prog w = .ok (.bool (!r.isNone)) w := fun w r => run_neq_map_nil w _ _ _ r Try.underlying56
  clear h
  go_enter Try.func27, Try.ntmps27
  go_wp2
  go_ret
  exact ⟨rfl, rfl⟩
theorem made_nil (W : World) : Calls Try.prog 27 #[.pointer none] W fun e W' => e = .returned (.bool false) ∧ W = W' := by
  go_enter Try.func27, Try.ntmps27
  go_wp2
  go_ret
  exact ⟨rfl, rfl⟩
set_option maxRecDepth 100000 in
theorem kept_any (k : ByteArray) (b : Bool) (W : World) (hk : k.size ≤ 281474976710656) : Calls Try.prog 29 #[.agg #[.string k, .bool b]] W fun e W' => e = .returned (.agg #[.string k, .bool b]) ∧ Below W.heap.size W W' := by
  have KC := Lib.hid (fun W => clone_str k W hk)
  have b1 := (Below.refl W.heap.size W).alloc (Nat.le_refl _) (.cells #[.string k, .bool b] 40)
  have b2 := b1.alloc b1.size (.cells #[.string ⟨#[]⟩, .bool false] 40)
  have HB := Lib.hid b2
  have c1 : Below (W.alloc (.cells #[.string k, .bool b] 40)).heap.size (W.alloc (.cells #[.string k, .bool b] 40)) ((W.alloc (.cells #[.string k, .bool b] 40)).alloc (.cells #[.string ⟨#[]⟩, .bool false] 40)) := (Below.refl _ _).alloc (Nat.le_refl _) _
  have y0 : ((W.alloc (.cells #[.string k, .bool b] 40)).alloc (.cells #[.string ⟨#[]⟩, .bool false] 40)).cell? ⟨W.heap.size, 0, none⟩ = some (.string k) := keep_cell c1 (new_cell rfl rfl)
  have y1 : ((W.alloc (.cells #[.string k, .bool b] 40)).alloc (.cells #[.string ⟨#[]⟩, .bool false] 40)).cell? ⟨W.heap.size, 1, none⟩ = some (.bool b) := keep_cell c1 (new_cell rfl rfl)
  have z0 : ((W.alloc (.cells #[.string k, .bool b] 40)).alloc (.cells #[.string ⟨#[]⟩, .bool false] 40)).cell? ⟨W.heap.size + 1, 0, none⟩ = some (.string ⟨#[]⟩) := new_cell (by simp only [World.size_alloc]) rfl
  have z1 : ((W.alloc (.cells #[.string k, .bool b] 40)).alloc (.cells #[.string ⟨#[]⟩, .bool false] 40)).cell? ⟨W.heap.size + 1, 1, none⟩ = some (.bool false) := new_cell (by simp only [World.size_alloc]) rfl
  have yf : ∀ i, ((W.alloc (.cells #[.string k, .bool b] 40)).alloc (.cells #[.string ⟨#[]⟩, .bool false] 40)).frozen? ⟨W.heap.size, i, none⟩ = false := fun i => (c1.frozen (p := ⟨W.heap.size, i, none⟩) (by simp only [World.size_alloc]; omega)).trans (World.frozen?_alloc_at _ _ _ _ rfl)
  have zf : ∀ i, ((W.alloc (.cells #[.string k, .bool b] 40)).alloc (.cells #[.string ⟨#[]⟩, .bool false] 40)).frozen? ⟨W.heap.size + 1, i, none⟩ = false := fun i => World.frozen?_alloc_at _ _ _ _ (by simp only [World.size_alloc])
  clear b1 b2 c1
  go_enter Try.func29, Try.ntmps29
  go_upto_region 1 with fail
  generalize (W.alloc (.cells #[.string k, .bool b] 40)).alloc (.cells #[.string ⟨#[]⟩, .bool false] 40) = Y at *
  go_wp2_with fail
  refine (KC.out _).mono ?_
  rintro e w1 ⟨rfl, hb⟩
  have yl := block_lt (p := ⟨W.heap.size, 0, none⟩) y0
  have zl := block_lt (p := ⟨W.heap.size + 1, 0, none⟩) z0
  replace y0 := keep_cell hb y0
  replace y1 := keep_cell hb y1
  replace z0 := keep_cell hb z0
  replace z1 := keep_cell hb z1
  replace yf := fun i => (hb.frozen (p := ⟨W.heap.size, i, none⟩) yl).trans (yf i)
  replace zf := fun i => (hb.frozen (p := ⟨W.heap.size + 1, i, none⟩) zl).trans (zf i)
  have HB1 := Lib.hid (HB.out.trans (hb.mono HB.out.size))
  have HB2 := Lib.hid (((HB1.out.setCell (p := ⟨W.heap.size, 0, none⟩) (Nat.le_refl _) (.string k)).setCell (p := ⟨W.heap.size + 1, 0, none⟩) (Nat.le_succ _) (.string k)).setCell (p := ⟨W.heap.size + 1, 1, none⟩) (Nat.le_succ _) (.bool b))
  have x0 := sc_ne (g := W.heap.size + 1) (i := 1) (u := .bool b) (sc_eq (u := .string k) (sc_ne (g := W.heap.size) (i := 0) (u := .string k) z0 (.inl (by omega)))) (.inr (by decide))
  have x1 := sc_eq (u := .bool b) (sc_ne (g := W.heap.size + 1) (i := 0) (u := .string k) (sc_ne (g := W.heap.size) (i := 0) (u := .string k) z1 (.inl (by omega))) (.inr (by decide)))
  clear HB hb KC yl zl
  go_wp2
  generalize ((w1.setCell ⟨W.heap.size, 0, none⟩ (.string k)).setCell ⟨W.heap.size + 1, 0, none⟩ (.string k)).setCell ⟨W.heap.size + 1, 1, none⟩ (.bool b) = Z at *
  refine bodyPost_ret (v := .agg #[.string k, .bool b]) ?_ rfl ⟨rfl, HB2.out⟩
  simp [results, Try.results29, go_sem, x0, x1]
end
end Go.Proofs.Ytgabdlnbencglaa
