/-
  THE WALK OF quadrigalaw05.DeviceNone: it returns true, and writes nothing that was there.
-/
import Derived.Test.YtmoadcjfgnemfaaDvNil
namespace Go.Proofs.Ytmoadcjfgnemfaa
open Go.RowKit
theorem newDa (w : World) (x : Da) (T : TypeId) : DaCells (w.alloc (.cells x.cells T)) w.heap.size 0 x :=
  ⟨new_cell rfl rfl, new_cell rfl rfl, new_cell rfl rfl, new_cell rfl rfl, new_cell rfl rfl⟩
def Five (W : World) (b : Nat) (x : Da) : Prop :=
  W.cell? ⟨b, 0, none⟩ = some (.int .i64 x.k) ∧ W.cell? ⟨b, 1, none⟩ = some (.int .i64 x.n) ∧ W.cell? ⟨b, 2, none⟩ = some (.bool x.o) ∧ W.cell? ⟨b, 3, none⟩ = some (.slice x.da x.dl.length x.dc) ∧ W.cell? ⟨b, 4, none⟩ = some (.slice x.ka x.kl.length x.kc)
theorem DaCells.five {W : World} {b : Nat} {x : Da} (h : DaCells W b 0 x) : Five W b x := by
  obtain ⟨h0, h1, h2, h3, h4⟩ := h
  simp only [Nat.zero_add] at h1 h2 h3 h4
  exact ⟨h0, h1, h2, h3, h4⟩
theorem Five.below {w w' : World} {b : Nat} {x : Da} (h : Five w b x) (hb : Below w.heap.size w w') : Five w' b x :=
  ⟨keep_cell hb h.1, keep_cell hb h.2.1, keep_cell hb h.2.2.1, keep_cell hb h.2.2.2.1, keep_cell hb h.2.2.2.2⟩
theorem keep_drew {W : World} {p : Addr} {v : Value} (hc : W.cell? p = some v) : W.drew.cell? p = some v := hc
set_option maxRecDepth 100000 in
set_option maxHeartbeats 4000000 in
theorem deviceNone_walk (x : Da) (w : World) (hx : DaOk w x) :
    Calls Try.prog 5 #[.agg x.cells] w fun e w' => e = .returned (.bool true) ∧ Below w.heap.size w w' := by
  have hb1 : Below w.heap.size w (w.alloc (.cells x.cells 38)) := (Below.refl _ _).alloc (Nat.le_refl _) _
  have hb2 : Below w.heap.size w ((w.alloc (.cells x.cells 38)).alloc (.cells x.cells 38)) := hb1.alloc hb1.size _
  have a2 := newDa (w.alloc (.cells x.cells 38)) x 38
  have a3 : DaCells ((w.alloc (.cells x.cells 38)).alloc (.cells x.cells 38)) w.heap.size 0 x := (newDa w x 38).below ((Below.refl _ _).alloc (Nat.le_refl _) _)
  have KG := Lib.hid ((great_any (some ⟨(w.alloc (.cells x.cells 38)).heap.size, 0, none⟩) [x] 1 ((w.alloc (.cells x.cells 38)).alloc (.cells x.cells 38)) (by simp [maxLen])
    ⟨fun y hy => by rw [List.mem_singleton] at hy; rw [hy]; exact hx.below hb2, .inr ⟨_, 0, rfl, fun i hi => by
      have : i = 0 := by simp at hi; exact hi
      subst this; exact a2⟩⟩).mono fun e w' hh => (⟨hh.1, by rw [← hh.2]; exact Lib.hid hb2, by rw [← hh.2]; exact Lib.hid a3.five⟩ : e = .returned (.bool (greatB [x])) ∧ Hid (Below w.heap.size w w') ∧ Hid (Five w' w.heap.size x)))
  rw [World.size_alloc] at KG
  have KJ := Lib.hid (fun W (hW : Below w.heap.size w W) (h6 : x.dl.length ≤ 1000) => join_any x.da x.dl x.dc W h6 (hx.ds.below hW) hx.dz)
  have HG := Lib.hid (fun h : greatB [x] = false => (greatB_no h).2 x (List.mem_singleton.2 rfl))
  clear hb1 hb2 a2 a3 hx
  generalize greatB [x] = g at KG HG
  have HS : Hid (∀ W0 : World, Five W0 w.heap.size x → ∀ W, Below W0.heap.size W0 W → Five W w.heap.size x) := fun W0 h W hW => h.below hW
  have hts := txt_size (joined x.dl)
  simp only [Da.cells, Five] at KG HS ⊢
  have KG : Hid (Calls Try.prog 8 #[.slice (some ⟨w.heap.size + 1, 0, none⟩) 1 1] _ _) := KG
  generalize txt (joined x.dl) = tj at *
  generalize (joined x.dl).length = jn at *
  generalize x.dl.length = dn at *
  generalize x.kl.length = kn at *
  generalize x.k = k at *
  generalize x.n = n at *
  generalize x.o = o at *
  generalize x.da = da at *
  generalize x.dc = dc at *
  generalize x.ka = ka at *
  generalize x.kc = kc at *
  have KP := Lib.hid (fun (hs : tj.size ≤ 1000) W => nPut n tj hs W)
  go_enter Try.func5, Try.ntmps5
  go_wp2_with fail
  refine KG.out.mono ?_
  rintro e w2 ⟨rfl, HB, hs⟩
  have HF := Lib.hid (HS.out w2 hs.out); clear HS hs KG
  cases g with
  | true =>
    go_wp2_with fail
    refine (awake_any w2).mono ?_
    rintro e w3 ⟨rfl, hb⟩
    go_wp2
    go_ret
    exact ⟨rfl, HB.out.trans (hb.mono HB.out.size)⟩
  | false =>
    obtain ⟨h6, h200, h40⟩ := HG.out rfl
    have hbd : Hid (Below w.heap.size w w2.drew) := HB.out.drew
    have KJ1 := Lib.hid (KJ.out _ hbd.out (by omega))
    have KP1 := Lib.hid ((KP.out (by omega) w2.drew).mono fun e w' hh => (⟨hh.1, Lib.hid (hbd.out.trans (hh.2.mono hbd.out.size)), (HF.out w' (((Below.refl _ w2).drew).trans hh.2)).2.1, (HF.out w' (((Below.refl _ w2).drew).trans hh.2)).2.2.2.1⟩ : e = .returned (.int .i64 1) ∧ Hid (Below w.heap.size w w') ∧ w'.cell? ⟨w.heap.size, 1, none⟩ = some (.int .i64 n) ∧ w'.cell? ⟨w.heap.size, 3, none⟩ = some (.slice da dn dc)))
    have KA1 := Lib.hid (fun (W : World) (hW : Hid (Below w.heap.size w W)) (q1 : W.cell? ⟨w.heap.size, 1, none⟩ = some (.int .i64 n)) (q3 : W.cell? ⟨w.heap.size, 3, none⟩ = some (.slice da dn dc)) => (awake_any W).mono fun e w' hh => (⟨hh.1, Lib.hid (hW.out.trans (hh.2.mono hW.out.size)), keep_cell hh.2 q1, keep_cell hh.2 q3⟩ : e = .returned (.bool true) ∧ Hid (Below w.heap.size w w') ∧ w'.cell? ⟨w.heap.size, 1, none⟩ = some (.int .i64 n) ∧ w'.cell? ⟨w.heap.size, 3, none⟩ = some (.slice da dn dc)))
    obtain ⟨c0, c1, c2, c3, c4⟩ := HF.out _ (Below.refl _ _)
    clear HF KJ KP HG hts HB hbd h6 h200 h40
    have N1 := Lib.hid (nPowArm n)
    have N2 := Lib.hid (nArm n)
    have N3 := Lib.hid (nCrash ka kn kc)
    have N4 := Lib.hid (nRead n)
    have N5 := Lib.hid (nWrite n da dn dc)
    have N6 := Lib.hid nSync
    have N7 := Lib.hid (nLasts n)
    have N8 := Lib.hid nLoose
    have N9 := Lib.hid nSectors
    have N10 := Lib.hid nOn
    have N11 := Lib.hid nUses
    have N12 := Lib.hid powOn_nil
    have N13 := Lib.hid nPowUses
    go_wp2_with fail
    refine (N1.out _).mono ?_
    rintro e w3 ⟨rfl, rfl⟩
    go_wp2_with fail
    refine (N2.out _).mono ?_
    rintro e w3 ⟨rfl, rfl⟩
    go_wp2_with fail
    refine (N3.out _).mono ?_
    rintro e w3 ⟨rfl, rfl⟩
    go_wp2_with fail
    refine (N4.out _).mono ?_
    rintro e w3 ⟨rfl, rfl⟩
    go_wp2_with fail
    simp only [List.append_eq, List.cons_append, List.nil_append]
    go_region_held3 (fun w' => w'.cell? ⟨w.heap.size, 1, none⟩ = some (.int .i64 n) ∧ w'.cell? ⟨w.heap.size, 3, none⟩ = some (.slice da dn dc))
      ((refine ⟨?_, ?_⟩ <;> (first | with_reducible assumption | (with_reducible refine keep_drew ?_; with_reducible assumption))))
      (first
        | (go_at_call 17; refine (N5.out _).mono ?_; rintro e w5 ⟨rfl, rfl⟩)
        | (go_at_call 19; refine (N6.out _).mono ?_; rintro e w5 ⟨rfl, rfl⟩)
        | (go_at_call 27; refine KJ1.out.mono ?_; rintro e w5 ⟨rfl, rfl⟩)
        | (go_at_call 26; refine KP1.out.mono ?_; rintro e w6 ⟨rfl, hb6, q1, q3⟩)
        | (go_at_call 28; refine (N7.out _).mono ?_; rintro e w5 ⟨rfl, rfl⟩)
        | (go_at_call 23; refine (N8.out _).mono ?_; rintro e w5 ⟨rfl, rfl⟩)
        | (go_at_call 29; refine (N9.out _).mono ?_; rintro e w5 ⟨rfl, rfl⟩)
        | (go_at_call 30; refine (N10.out _).mono ?_; rintro e w5 ⟨rfl, rfl⟩)
        | (go_at_call 31; refine (N11.out _).mono ?_; rintro e w5 ⟨rfl, rfl⟩)
        | (go_at_call 14; refine (N12.out _).mono ?_; rintro e w5 ⟨rfl, rfl⟩)
        | (go_at_call 15; refine (N13.out _).mono ?_; rintro e w5 ⟨rfl, rfl⟩)
        | (go_at_call 9; refine (KA1.out _ hb6 q1 q3).mono ?_; rintro e w7 ⟨rfl, hb7, r1, r3⟩))
    all_goals go_wp2
    all_goals go_ret
    all_goals exact ⟨rfl, hb7.out⟩
end Go.Proofs.Ytmoadcjfgnemfaa
