/-
  THE CONTRACTS OF pool's New, dirty, idle; of calls on no pool.
-/
import Derived.Test.YtpkbopeddhgnlaaGreatDoorPlWrite
namespace Go.Proofs.YtpkbopeddhgnlaaGreatDoor
open Go.RowKit
theorem new_nil (room : Int) (W : World) : Calls Tryz.prog 15 #[.pointer none, .int .i64 room] W fun x w' => x = .returned (.pointer none) ∧ W = w' := by
  go_enter Tryz.func15, Tryz.ntmps15
  go_wp2
  go_ret
  exact ⟨rfl, rfl⟩
theorem new_small (T : Nat) (room : Int) (h : room < 1) (W : World) : Calls Tryz.prog 15 #[.pointer (some ⟨T, 0, none⟩), .int .i64 room] W fun x w' => x = .returned (.pointer none) ∧ W = w' := by
  go_enter Tryz.func15, Tryz.ntmps15
  go_wp2
  go_ret
  exact ⟨rfl, rfl⟩
theorem new_raw (T : Nat) (room : Nat) (h : 1 ≤ room) (W : World) : Calls Tryz.prog 15 #[.pointer (some ⟨T, 0, none⟩), .int .i64 (room : Int)] W fun x w' => x = .returned (.pointer (some ⟨W.heap.size + 1, 0, none⟩)) ∧ w' = (W.alloc (.map #[] 0)).alloc (.cells #[.pointer (some ⟨T, 0, none⟩), .int .i64 (room : Int), .map (some W.heap.size)] 66) := by
  have hmm := @run_makeMap Tryz.prog
  have h1 : ¬ (room : Int) < 1 := by omega
  go_enter Tryz.func15, Tryz.ntmps15
  go_wp2
  go_ret
  exact ⟨rfl, rfl⟩
section
variable {w W X : World} {D P L M n B T np Q room MF k : Nat} {now : Nat → Pg} {o : Int → Option Nat} {fv : Int → FrD}
/-- A new pool. -/
theorem pool_new (h : Tk w W D P L M n B T np now .on) (room : Nat) (hr : 1 ≤ room) : Calls Tryz.prog 15 #[.pointer (some ⟨T, 0, none⟩), .int .i64 (room : Int)] W fun x w' => ∃ Q MF, x = .returned (.pointer (some ⟨Q, 0, none⟩)) ∧ PlS w w' D P L M n B T np now Q room MF 0 (fun _ => none) (fun _ => noFr) ∧ Below W.heap.size W w' := by
  refine (new_raw T room hr W).mono ?_
  rintro x w' ⟨rfl, rfl⟩
  have hb1 := (Below.refl W.heap.size W).alloc (Nat.le_refl _) (.map #[] 0)
  have hb2 := hb1.alloc hb1.size (.cells #[.pointer (some ⟨T, 0, none⟩), .int .i64 (room : Int), .map (some W.heap.size)] 66)
  have hs1 : (W.alloc (.map #[] 0)).heap.size = W.heap.size + 1 := by simp
  obtain ⟨l1, l2, l3⟩ := h.lts
  have hw := h.bw.size
  have hm := (FrAt.made W).of_block (((Below.refl _ _).alloc (Nat.le_refl _) (.cells #[.pointer (some ⟨T, 0, none⟩), .int .i64 (room : Int), .map (some W.heap.size)] 66)).block W.heap.size (by rw [hs1]; omega))
  refine ⟨W.heap.size + 1, W.heap.size, rfl, ?_, hb2⟩
  exact {
    tk := h.below hb2
    q0 := Dv.new_cell hs1.symm rfl
    q1 := Dv.new_cell hs1.symm rfl
    q2 := Dv.new_cell hs1.symm rfl
    mp := hm
    fr := fun i F e => by cases e
    qs := ⟨by omega, by omega, by omega, by omega⟩
    ms := ⟨by omega, by omega, by omega⟩
    fs := fun i F e => by cases e
    rs := fun i F r e => by cases e
    inj := fun i j F e => by cases e
    lo := ⟨by omega, hw, fun i F e => by cases e⟩
    keys := fun i e => by cases e }
/-- Whether a frame is dirty. -/
theorem dirty_any (h : PlS w W D P L M n B T np now Q room MF k o fv) {i : Int} {F : Nat} (e : o i = some F) : Calls Tryz.prog 34 #[.pointer (some ⟨F, 0, none⟩)] W fun x w' => x = .returned (.bool (decide (0 < (fv i).first))) ∧ W = w' := by
  have f0 := (h.fr i F e).f0
  clear h e
  generalize (fv i).first = z at *
  go_enter Tryz.func34, Tryz.ntmps34
  go_wp2
  go_ret
  exact ⟨rfl, rfl⟩
end
/-! ### no pool -/
theorem get_nil (no : Int) (W : World) : Calls Tryz.prog 8 #[.pointer none, .int .i64 no] W (Pg0 W 1) := by
  have HR0 := Lib.hid (tkR_new W 26)
  go_enter Tryz.func8, Tryz.ntmps8
  go_upto_region 1 with fail
  generalize W.alloc (.cells #[.int .i64 0, .int .i64 0, .slice none 0 0] 26) = X0 at *
  obtain ⟨r0, r1, r2, rf, bw⟩ := HR0.out
  go_wp2
  obtain ⟨X, hX, x0, x1, x2, hbX, _⟩ := set3 (v0 := .int .i64 0) (v1 := .int .i64 0) (v2 := .slice none 0 0) bw (Nat.le_refl _) r0 r1 r2
  rw [← hX]
  refine bodyPost_ret (v := .tuple #[.agg #[.int .i64 0, .int .i64 0, .slice none 0 0], .int .i64 1]) ?_ rfl ⟨rfl, hbX⟩
  simp [results, Tryz.results8, go_sem, x0, x1, x2]
theorem each_nil (a : Option Addr) (m c : Nat) (f : Value) (W : World) : Calls Tryz.prog 30 #[.pointer none, .slice a m c, f] W fun x w' => x = .returned (.int .i64 1) ∧ W = w' := by
  go_enter Tryz.func30, Tryz.ntmps30
  go_wp2
  go_ret
  exact ⟨rfl, rfl⟩
theorem held_nil (W : World) : Calls Tryz.prog 20 #[.pointer none] W fun x w' => x = .returned (.slice none 0 0) ∧ W = w' := by
  go_enter Tryz.func20, Tryz.ntmps20
  go_wp2
  go_ret
  exact ⟨rfl, rfl⟩
theorem len_nil (W : World) : Calls Tryz.prog 21 #[.pointer none] W fun x w' => x = .returned (.int .i64 0) ∧ W = w' := by
  go_enter Tryz.func21, Tryz.ntmps21
  go_wp2
  go_ret
  exact ⟨rfl, rfl⟩
theorem dirtyL_nil (W : World) : Calls Tryz.prog 19 #[.pointer none] W fun x w' => x = .returned (.slice none 0 0) ∧ W = w' := by
  have KH := Lib.hid (held_nil W)
  go_enter Tryz.func19, Tryz.ntmps19
  go_wp2_with fail
  refine KH.out.mono ?_
  rintro x w1 ⟨rfl, rfl⟩
  go_wp2
  go_loop [3, 10] (fun l i => l = .slice none 0 0 ∧ i = .int .i64 0) (fun _ _ => 0)
  case atStart => exact ⟨rfl, rfl⟩
  case round =>
    obtain ⟨rfl, rfl⟩ := hrel
    go_wp2
    go_ret
    exact ⟨rfl, rfl⟩
theorem nums_nil (W : World) : Calls Tryz.prog 39 #[.pointer none] W fun x w' => x = .returned (.slice none 0 0) ∧ W = w' := by
  have KH := Lib.hid (dirtyL_nil W)
  go_enter Tryz.func39, Tryz.ntmps39
  go_wp2_with fail
  refine KH.out.mono ?_
  rintro x w1 ⟨rfl, rfl⟩
  go_wp2
  go_loop [3, 9] (fun l i => l = .slice none 0 0 ∧ i = .int .i64 0) (fun _ _ => 0)
  case atStart => exact ⟨rfl, rfl⟩
  case round =>
    obtain ⟨rfl, rfl⟩ := hrel
    go_wp2
    go_ret
    exact ⟨rfl, rfl⟩
theorem oldest_nil (W : World) : Calls Tryz.prog 14 #[.pointer none] W fun x w' => x = .returned (.tuple #[.int .i64 0, .bool false]) ∧ W = w' := by
  have KH := Lib.hid (dirtyL_nil W)
  go_enter Tryz.func14, Tryz.ntmps14
  go_wp2_with fail
  refine KH.out.mono ?_
  rintro x w1 ⟨rfl, rfl⟩
  go_wp2
  go_loop [4, 5, 11] (fun a b i => a = .int .i64 0 ∧ b = .bool false ∧ i = .int .i64 0) (fun _ _ _ => 0)
  case atStart => exact ⟨rfl, rfl, rfl⟩
  case round =>
    obtain ⟨rfl, rfl, rfl⟩ := hrel
    go_wp2
    exact bodyPost_ret (v := .tuple #[.int .i64 0, .bool false]) (by simp [results, Tryz.results14, go_sem]) rfl ⟨rfl, rfl⟩
theorem pin_nil (a : Option Addr) (m c : Nat) (W : World) : Calls Tryz.prog 16 #[.pointer none, .slice a m c] W fun x w' => x = .returned (.int .i64 1) ∧ W = w' := by
  have KE := Lib.hid (fun f W => each_nil a m c f W)
  go_enter Tryz.func16, Tryz.ntmps16
  go_wp2_with fail
  refine (KE.out _ _).mono ?_
  rintro x w1 ⟨rfl, rfl⟩
  go_wp2
  go_ret
  exact ⟨rfl, rfl⟩
theorem unpin_nil (a : Option Addr) (m c : Nat) (W : World) : Calls Tryz.prog 17 #[.pointer none, .slice a m c] W fun x w' => x = .returned (.int .i64 1) ∧ W = w' := by
  have KE := Lib.hid (fun f W => each_nil a m c f W)
  go_enter Tryz.func17, Tryz.ntmps17
  go_wp2_with fail
  refine (KE.out _ _).mono ?_
  rintro x w1 ⟨rfl, rfl⟩
  go_wp2
  go_ret
  exact ⟨rfl, rfl⟩
theorem evict_nil (a : Option Addr) (m c : Nat) (W : World) : Calls Tryz.prog 18 #[.pointer none, .slice a m c] W fun x w' => x = .returned (.int .i64 1) ∧ Below W.heap.size W w' := by
  have KE := Lib.hid (fun f W => each_nil a m c f W)
  have hb1 := (Below.refl W.heap.size W).alloc (Nat.le_refl _) (.cells #[.pointer none] 30)
  have p0 : (W.alloc (.cells #[.pointer none] 30)).cell? ⟨W.heap.size, 0, none⟩ = some (.pointer none) := Dv.new_cell rfl rfl
  go_enter Tryz.func18, Tryz.ntmps18
  go_upto_region 1 with fail
  generalize W.alloc (.cells #[.pointer none] 30) = X at *
  go_wp2_with fail
  refine (KE.out _ _).mono ?_
  rintro x w1 ⟨rfl, rfl⟩
  go_wp2
  go_ret
  exact ⟨rfl, hb1⟩
theorem change_nil (no g gsn : Int) (a : Option Addr) (m c : Nat) (W : World) : Calls Tryz.prog 9 #[.pointer none, .agg #[.int .i64 no, .int .i64 g, .slice a m c], .int .i64 gsn] W fun x w' => x = .returned (.int .i64 1) ∧ Below W.heap.size W w' := by
  have KE := Lib.hid (fun a m c f W => each_nil a m c f W)
  have hb1 := (Below.refl W.heap.size W).alloc (Nat.le_refl _) (.cells #[.int .i64 no, .int .i64 g, .slice a m c] 26)
  have hb2 := hb1.alloc hb1.size (.cells #[.int .i64 gsn] 3)
  have p0 : ((W.alloc (.cells #[.int .i64 no, .int .i64 g, .slice a m c] 26)).alloc (.cells #[.int .i64 gsn] 3)).cell? ⟨W.heap.size, 0, none⟩ = some (.int .i64 no) := Dv.keep_cell ((Below.refl _ _).alloc (Nat.le_refl _) _) (Dv.new_cell rfl rfl)
  go_enter Tryz.func9, Tryz.ntmps9
  go_upto_region 1 with fail
  generalize (W.alloc (.cells #[.int .i64 no, .int .i64 g, .slice a m c] 26)).alloc (.cells #[.int .i64 gsn] 3) = X at *
  go_wp2_with fail
  refine (KE.out _ _ _ _ _).mono ?_
  rintro x w1 ⟨rfl, rfl⟩
  have hb3 := hb2.alloc hb2.size (.cells #[.int .i64 no] 3)
  go_wp2
  go_ret
  exact ⟨rfl, hb3⟩
theorem flush_nil (hz : Int) (W : World) : Calls Tryz.prog 13 #[.pointer none, .int .i64 hz, .slice none 0 0] W fun x w' => x = .returned (.tuple #[.int .i64 0, .int .i64 1]) ∧ Below W.heap.size W w' := by
  have KE := Lib.hid (fun a m c f W => each_nil a m c f W)
  have KN := Lib.hid (fun W => nums_nil W)
  have hb1 := (Below.refl W.heap.size W).alloc (Nat.le_refl _) (.cells #[.pointer none] 30)
  have hb2 := hb1.alloc hb1.size (.cells #[.int .i64 hz] 3)
  have p0 : ((W.alloc (.cells #[.pointer none] 30)).alloc (.cells #[.int .i64 hz] 3)).cell? ⟨W.heap.size, 0, none⟩ = some (.pointer none) := Dv.keep_cell ((Below.refl _ _).alloc (Nat.le_refl _) _) (Dv.new_cell rfl rfl)
  go_enter Tryz.func13, Tryz.ntmps13
  go_upto_region 1 with fail
  generalize (W.alloc (.cells #[.pointer none] 30)).alloc (.cells #[.int .i64 hz] 3) = X at *
  go_wp2_with fail
  refine (KN.out _).mono ?_
  rintro x w1 ⟨rfl, rfl⟩
  have hb3 := hb2.alloc hb2.size (.cells #[.int .i64 0] 3)
  have p1 : (X.alloc (.cells #[.int .i64 0] 3)).cell? ⟨W.heap.size, 0, none⟩ = some (.pointer none) := Dv.keep_cell ((Below.refl _ _).alloc (Nat.le_refl _) _) p0
  have p2 : (X.alloc (.cells #[.int .i64 0] 3)).cell? ⟨X.heap.size, 0, none⟩ = some (.int .i64 0) := Dv.new_cell rfl rfl
  go_upto_region 4 with fail
  generalize X.alloc (.cells #[.int .i64 0] 3) = Y at *
  go_wp2_with fail
  refine (KE.out _ _ _ _ _).mono ?_
  rintro x w1 ⟨rfl, rfl⟩
  go_wp2
  exact bodyPost_ret (v := .tuple #[.int .i64 0, .int .i64 1]) (by simp [results, Tryz.results13, go_sem]) rfl ⟨rfl, hb3⟩
end Go.Proofs.YtpkbopeddhgnlaaGreatDoor
