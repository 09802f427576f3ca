/-
  THE CONTRACT OF head.kept; Load and Save without a device, and of one that is off.
-/
import Derived.Test.YtpoagfldekppkaaDoorHdRead
import Derived.Test.YtpoagfldekppkaaDoorHvOff
import Derived.Test.YtpoagfldekppkaaDoorHvNew
namespace Go.Proofs.YtpoagfldekppkaaDoor
open Go.RowKit
section
variable {W : World} {D P L M n k : Nat} {uses left : Int} {las : List (List UInt8)} {f : Int → Option (List UInt8)}
theorem kept_nil (i : Int) (W : World) (hi : -9223372036854775808 ≤ i ∧ i ≤ 9223372036854775807) :
    Calls Tryd.prog 26 #[.pointer none, .int .i64 i] W fun x w' => x = .returned (.bool false) ∧ W = w' := by
  have KS := Lib.hid (Dv.sectors_nil W)
  go_enter Tryd.func26, Tryd.ntmps26
  by_cases h0 : 0 ≤ i
  · have h1 : ¬ i ≤ -2 := by omega
    go_wp2_with fail
    refine KS.out.mono ?_
    rintro x w' ⟨rfl, rfl⟩
    go_wp2
    exact bodyPost_ret (v := .bool false) (by simp [results, Tryd.results26, go_sem]; omega) rfl ⟨rfl, rfl⟩
  · go_wp2
    go_ret
    exact ⟨rfl, rfl⟩
theorem kept_yes {off armed : Bool} (h : Dv.DevAt W D P L M n k off uses armed left las f) (i : Int) (hi : 0 ≤ i ∧ i + 2 ≤ n) (hn : n ≤ 4096) :
    Calls Tryd.prog 26 #[.pointer (some ⟨D, 0, none⟩), .int .i64 i] W fun x w' => x = .returned (.bool true) ∧ W = w' := by
  have KS := Lib.hid (Dv.sectors_any h)
  clear h
  have h0 : 0 ≤ i := hi.1
  have h1 : i ≤ (n : Int) - 2 := by omega
  have hn2 : (n : Int) ≤ 4096 := by omega
  go_enter Tryd.func26, Tryd.ntmps26
  go_wp2_with fail
  refine KS.out.mono ?_
  rintro x w' ⟨rfl, rfl⟩
  go_wp2
  go_ret
  exact ⟨rfl, rfl⟩
/-- The result's cells, as they are made. -/
structure Z5 (w W : World) (R : Nat) : Prop where
  r : C5 W R z64 z64 z64 z64 z64
  rf : ∀ i, W.frozen? ⟨R, i, none⟩ = false
  bw : Below w.heap.size w W
  hR : w.heap.size ≤ R
theorem Z5.below {w W X : World} {R : Nat} (h : Z5 w W R) (hb : Below W.heap.size W X) : Z5 w X R where
  r := h.r.below hb
  rf := fun i => (hb.frozen (p := ⟨R, i, none⟩) (show R < W.heap.size from blk_of h.r.c0)).trans (h.rf i)
  bw := h.bw.trans (hb.mono h.bw.size)
  hR := h.hR
theorem z5_new (w : World) (T : TypeId) : Z5 w (w.alloc (.cells #[z64, z64, z64, z64, z64] T)) w.heap.size := ⟨C5.new w z64 z64 z64 z64 z64 T, fun _ => World.frozen?_alloc_at _ _ _ _ rfl, (Below.refl _ _).alloc (Nat.le_refl _) _, Nat.le_refl _⟩
/-- A head's own cells. -/
structure H5 (W : World) (Q : Nat) (s e c st m : Int) : Prop where
  h : C5 W Q (.int .i64 s) (.int .i64 e) (.int .i64 c) (.int .i64 st) (.int .i64 m)
  hf : ∀ i, W.frozen? ⟨Q, i, none⟩ = false
theorem H5.below {W X : World} {Q : Nat} {s e c st m : Int} (h : H5 W Q s e c st m) (hb : Below W.heap.size W X) : H5 X Q s e c st m where
  h := h.h.below hb
  hf := fun i => (hb.frozen (p := ⟨Q, i, none⟩) (show Q < W.heap.size from blk_of h.h.c0)).trans (h.hf i)
theorem save_new (w : World) (s e c st m : Int) (T : TypeId) :
    Z5 w ((w.alloc (.cells #[.int .i64 s, .int .i64 e, .int .i64 c, .int .i64 st, .int .i64 m] T)).alloc (.cells #[z64, z64, z64, z64, z64] T)) (w.heap.size + 1) ∧
    H5 ((w.alloc (.cells #[.int .i64 s, .int .i64 e, .int .i64 c, .int .i64 st, .int .i64 m] T)).alloc (.cells #[z64, z64, z64, z64, z64] T)) w.heap.size s e c st m := by
  have hb0 : Below w.heap.size w (w.alloc (.cells #[.int .i64 s, .int .i64 e, .int .i64 c, .int .i64 st, .int .i64 m] T)) := (Below.refl _ _).alloc (Nat.le_refl _) _
  have hs : (w.alloc (.cells #[.int .i64 s, .int .i64 e, .int .i64 c, .int .i64 st, .int .i64 m] T)).heap.size = w.heap.size + 1 := World.size_alloc _ _
  have h1 : H5 (w.alloc (.cells #[.int .i64 s, .int .i64 e, .int .i64 c, .int .i64 st, .int .i64 m] T)) w.heap.size s e c st m := ⟨C5.new w _ _ _ _ _ T, fun _ => World.frozen?_alloc_at _ _ _ _ rfl⟩
  have z := z5_new (w.alloc (.cells #[.int .i64 s, .int .i64 e, .int .i64 c, .int .i64 st, .int .i64 m] T)) T
  rw [hs] at z
  exact ⟨⟨z.r, z.rf, hb0.trans (by have := z.bw; rw [hs] at this; exact this.mono (Nat.le_succ _)), Nat.le_succ _⟩, h1.below ((Below.refl _ _).alloc (Nat.le_refl _) _)⟩
set_option maxRecDepth 100000 in
theorem load_nil (i : Int) (W : World) (hi : -9223372036854775808 ≤ i ∧ i ≤ 9223372036854775807) :
    Calls Tryd.prog 23 #[.pointer none, .int .i64 i] W fun x w' => x = .returned (.tuple #[.agg #[.int .i64 0, .int .i64 0, .int .i64 0, .int .i64 0, .int .i64 0], .int .i64 1]) ∧ Below W.heap.size W w' := by
  have KK := Lib.hid (fun W => kept_nil i W hi)
  have Z0 := Lib.hid (z5_new W 44)
  go_enter Tryd.func23, Tryd.ntmps23
  go_wp2_with fail
  refine (KK.out _).mono ?_
  rintro x w' ⟨rfl, rfl⟩
  obtain ⟨⟨r0, r1, r2, r3, r4⟩, rf, bw, _⟩ := Z0.out
  clear KK Z0
  go_wp2
  refine bodyPost_ret (v := .tuple #[.agg #[.int .i64 0, .int .i64 0, .int .i64 0, .int .i64 0, .int .i64 0], .int .i64 1]) ?_ rfl ⟨rfl, bw⟩
  simp [results, Tryd.results23, go_sem, r0, r1, r2, r3, r4]
set_option maxRecDepth 100000 in
theorem save_nil (i : Int) (s e c st m : Int) (W : World) (hi : -9223372036854775808 ≤ i ∧ i ≤ 9223372036854775807) :
    Calls Tryd.prog 18 #[.pointer none, .int .i64 i, .agg #[.int .i64 s, .int .i64 e, .int .i64 c, .int .i64 st, .int .i64 m]] W fun x w' => x = .returned (.tuple #[.agg #[.int .i64 0, .int .i64 0, .int .i64 0, .int .i64 0, .int .i64 0], .int .i64 1]) ∧ Below W.heap.size W w' := by
  have KK := Lib.hid (fun W => kept_nil i W hi)
  have Z0 := Lib.hid (save_new W s e c st m 44).1
  go_enter Tryd.func18, Tryd.ntmps18
  go_wp2_with fail
  refine (KK.out _).mono ?_
  rintro x w' ⟨rfl, rfl⟩
  obtain ⟨⟨r0, r1, r2, r3, r4⟩, rf, bw, _⟩ := Z0.out
  clear KK Z0
  go_wp2
  refine bodyPost_ret (v := .tuple #[.agg #[.int .i64 0, .int .i64 0, .int .i64 0, .int .i64 0, .int .i64 0], .int .i64 1]) ?_ rfl ⟨rfl, bw⟩
  simp [results, Tryd.results18, go_sem, r0, r1, r2, r3, r4]
end
end Go.Proofs.YtpoagfldekppkaaDoor
