/-
  PoolNone: the walk.
-/
import Derived.Test.YtpkbopeddhgnlaaGreatDoorPlAwake
import Derived.Test.YtpkbopeddhgnlaaGreatDoorTpA
namespace Go.Proofs.YtpkbopeddhgnlaaGreatDoor
open Go.RowKit
theorem new_big (T : Nat) (n : Int) (h : 1 ≤ n) (W : World) : Calls Tryz.prog 15 #[.pointer (some ⟨T, 0, none⟩), .int .i64 n] W fun x w' => (∃ Q, x = .returned (.pointer (some ⟨Q, 0, none⟩))) ∧ Below W.heap.size W w' := by
  have := new_raw T n.toNat (by omega) W
  rw [Int.toNat_of_nonneg (by omega)] at this
  refine this.mono ?_
  rintro x w' ⟨rfl, rfl⟩
  have hb1 := (Below.refl W.heap.size W).alloc (Nat.le_refl _) (.map #[] 0)
  exact ⟨⟨_, rfl⟩, hb1.alloc hb1.size _⟩
set_option maxRecDepth 100000 in
set_option maxHeartbeats 8000000 in
theorem poolNone_walk (n pn pg : Int) (a : Option Addr) (l : List (ByteArray × ByteArray)) (c : Nat) (w : World) (hl : l.length ≤ maxLen) (ha : ClsAt w a l) (ht : Tab w) :
    Calls Tryz.prog 4 #[.int .i64 n, .agg #[.int .i64 pn, .int .i64 pg, .slice a l.length c]] w fun x w' => x = .returned (.bool true) ∧ Below w.heap.size w w' := by
  have hb0 := (Below.refl w.heap.size w).alloc (Nat.le_refl _) (.cells #[.int .i64 pn, .int .i64 pg, .slice a l.length c] 26)
  have KG := Lib.hid (great_any pn pg a l c _ hl (ha.below hb0))
  have c0 : (w.alloc (.cells #[.int .i64 pn, .int .i64 pg, .slice a l.length c] 26)).cell? ⟨w.heap.size, 0, none⟩ = some (.int .i64 pn) := Dv.new_cell rfl rfl
  have c1 : (w.alloc (.cells #[.int .i64 pn, .int .i64 pg, .slice a l.length c] 26)).cell? ⟨w.heap.size, 1, none⟩ = some (.int .i64 pg) := Dv.new_cell rfl rfl
  have c2 : (w.alloc (.cells #[.int .i64 pn, .int .i64 pg, .slice a l.length c] 26)).cell? ⟨w.heap.size, 2, none⟩ = some (.slice a l.length c) := Dv.new_cell rfl rfl
  have KW := Lib.hid (fun W hT => awake13_any W W (Below.refl _ _) hT)
  have HT := Lib.hid ht
  clear ha ht
  cases hg : clGreat l with
  | true =>
    rw [hg] at KG
    clear hg
    go_enter Tryz.func4, Tryz.ntmps4
    go_upto_region 1 with fail
    generalize w.alloc (.cells #[.int .i64 pn, .int .i64 pg, .slice a l.length c] 26) = X at *
    go_wp2_with fail
    refine KG.out.mono ?_
    rintro x w1 ⟨rfl, hb1⟩
    have B1 := Lib.hid (hb0.trans (hb1.mono hb0.size))
    clear hb1 KG c0 c1 c2
    go_wp2_with fail
    refine (KW.out _ (HT.out.below B1.out)).mono ?_
    rintro x w2 ⟨rfl, hb2⟩
    have hb3 := B1.out.trans (hb2.mono B1.out.size)
    clear hb2 KW B1
    go_wp2
    go_ret
    exact ⟨rfl, hb3⟩
  | false =>
    rw [hg] at KG
    clear hg
    go_enter Tryz.func4, Tryz.ntmps4
    go_upto_region 1 with fail
    generalize w.alloc (.cells #[.int .i64 pn, .int .i64 pg, .slice a l.length c] 26) = X at *
    go_wp2_with fail
    refine KG.out.mono ?_
    rintro x w1 ⟨rfl, hb1⟩
    have B1 := Lib.hid (hb0.trans (hb1.mono hb0.size))
    have d0 := Dv.keep_cell hb1 c0
    have d1 := Dv.keep_cell hb1 c1
    have d2 := Dv.keep_cell hb1 c2
    clear hb1 KG c0 c1 c2 hb0
    go_wp2_with fail
    refine (KW.out _ (HT.out.below B1.out)).mono ?_
    rintro x w2 ⟨rfl, hb2⟩
    have B2 := Lib.hid (B1.out.trans (hb2.mono B1.out.size))
    have c0 := Dv.keep_cell hb2 d0
    have c1 := Dv.keep_cell hb2 d1
    have c2 := Dv.keep_cell hb2 d2
    have KN := Lib.hid (c_new 20 w2 w2 (Below.refl _ _) (HT.out.below B2.out) (by omega) (by omega))
    rw [show ((20 : Nat) : Int) = 20 from rfl] at KN
    clear hb2 KW B1 d0 d1 d2 HT
    go_wp2_with fail
    refine KN.out.mono ?_
    rintro x w4 ⟨D, P, L, M, rfl, hd4, hb4⟩
    have KF := Lib.hid (c_fmt hd4 (by omega) (by omega) 2 (by omega) (by omega) (by omega))
    rw [show ((2 : Nat) : Int) = 2 from rfl] at KF
    clear hd4 hb4 KN
    go_wp2_with fail
    refine KF.out.mono ?_
    rintro x w5 ⟨T, rfl, hk5, hf5⟩
    have hb5 := hk5.bw
    have B5 := Lib.hid (B2.out.trans (hb5.mono B2.out.size))
    have d0 := Dv.keep_cell hb5 c0
    have d1 := Dv.keep_cell hb5 c1
    have d2 := Dv.keep_cell hb5 c2
    have KGet := Lib.hid (fun W => get_nil n W)
    clear hk5 hf5 KF hb5 c0 c1 c2 B2
    go_wp2_with fail
    refine (KGet.out _).mono ?_
    rintro x w6 ⟨rfl, hb6⟩
    have hba := hb6.alloc hb6.size (.cells #[.int .i64 0, .int .i64 0, .slice none 0 0] 26)
    have B6 := Lib.hid (B5.out.trans (hba.mono B5.out.size))
    have c0 := Dv.keep_cell hba d0
    have c1 := Dv.keep_cell hba d1
    have c2 := Dv.keep_cell hba d2
    clear hb6 hba KGet d0 d1 d2 B5
    go_upto_region 6 with fail
    generalize w6.alloc (.cells #[.int .i64 0, .int .i64 0, .slice none 0 0] 26) = Y at *
    have KFl := Lib.hid (flush_nil n Y)
    go_wp2_with fail
    refine KFl.out.mono ?_
    rintro x w7 ⟨rfl, hb7⟩
    have B7 := Lib.hid (B6.out.trans (hb7.mono B6.out.size))
    have d0 := Dv.keep_cell hb7 c0
    have d1 := Dv.keep_cell hb7 c1
    have d2 := Dv.keep_cell hb7 c2
    have KO := Lib.hid (oldest_nil w7)
    have KN3 := Lib.hid (new_nil 3 w7)
    clear hb7 KFl c0 c1 c2 B6
    go_wp2_with fail
    refine KO.out.mono ?_
    rintro x w8 ⟨rfl, rfl⟩
    clear KO
    go_wp2_with fail
    refine KN3.out.mono ?_
    rintro x w8 ⟨rfl, rfl⟩
    clear KN3
    by_cases hn : 1 ≤ n
    · have KT := Lib.hid (new_big T n hn w7)
      go_wp2_with fail
      refine KT.out.mono ?_
      rintro x w8 ⟨⟨Q, rfl⟩, hb8⟩
      have B8 := Lib.hid (B7.out.trans (hb8.mono B7.out.size))
      have c0 := Dv.keep_cell hb8 d0
      have c1 := Dv.keep_cell hb8 d1
      have c2 := Dv.keep_cell hb8 d2
      have KC := Lib.hid (fun W => change_nil pn pg n a l.length c W)
      clear hb8 KT d0 d1 d2 B7
      go_wp2_with fail
      refine (KC.out _).mono ?_
      rintro x w9 ⟨rfl, hb9⟩
      have B9 := Lib.hid (B8.out.trans (hb9.mono B8.out.size))
      have KP := Lib.hid (fun a m c W => pin_nil a m c W)
      clear hb9 KC c0 c1 c2 B8
      go_wp2_with fail
      refine (KP.out _ _ _ _).mono ?_
      rintro x w10 ⟨rfl, rfl⟩
      have B10 := Lib.hid (B9.out.trans (((Below.refl w9.heap.size w9).alloc (Nat.le_refl _) (.cells #[.int .i64 n] 3)).mono B9.out.size))
      have KU := Lib.hid (fun a m c W => unpin_nil a m c W)
      clear KP B9
      generalize w9.alloc (.cells #[.int .i64 n] 3) = Y10 at *
      go_wp2_with fail
      refine (KU.out _ _ _ _).mono ?_
      rintro x w11 ⟨rfl, rfl⟩
      have B11 := Lib.hid (B10.out.trans (((Below.refl Y10.heap.size Y10).alloc (Nat.le_refl _) (.cells #[.int .i64 n] 3)).mono B10.out.size))
      have KV := Lib.hid (fun a m c W => evict_nil a m c W)
      clear KU B10
      generalize Y10.alloc (.cells #[.int .i64 n] 3) = Y11 at *
      go_wp2_with fail
      refine (KV.out _ _ _ _).mono ?_
      rintro x w12 ⟨rfl, hb12⟩
      have hba := (Below.refl Y11.heap.size Y11).alloc (Nat.le_refl _) (.cells #[.int .i64 n] 3)
      have B12 := Lib.hid (B11.out.trans ((hba.trans (hb12.mono hba.size)).mono B11.out.size))
      have KD := Lib.hid (fun W => dirtyL_nil W)
      have KH := Lib.hid (fun W => held_nil W)
      have KL := Lib.hid (fun W => len_nil W)
      clear KV B11 hba hb12
      go_wp2_with fail
      refine (KD.out _).mono ?_
      rintro x w13 ⟨rfl, rfl⟩
      clear KD
      go_wp2_with fail
      refine (KH.out _).mono ?_
      rintro x w14 ⟨rfl, rfl⟩
      clear KH
      go_wp2_with fail
      refine (KL.out _).mono ?_
      rintro x w15 ⟨rfl, rfl⟩
      clear KL
      go_wp2
      go_ret
      exact ⟨rfl, B12.out⟩
    · have hn2 : n < 1 := by omega
      have hd : decide (1 ≤ n) = false := decide_eq_false hn
      have KT := Lib.hid (new_small T n hn2 w7)
      clear hn
      go_wp2_with fail
      refine KT.out.mono ?_
      rintro x w8 ⟨rfl, rfl⟩
      have hb8 := Below.refl w7.heap.size w7
      have B8 := Lib.hid (B7.out.trans (hb8.mono B7.out.size))
      have c0 := Dv.keep_cell hb8 d0
      have c1 := Dv.keep_cell hb8 d1
      have c2 := Dv.keep_cell hb8 d2
      have KC := Lib.hid (fun W => change_nil pn pg n a l.length c W)
      clear hb8 KT d0 d1 d2 B7
      go_wp2_with fail
      refine (KC.out _).mono ?_
      rintro x w9 ⟨rfl, hb9⟩
      have B9 := Lib.hid (B8.out.trans (hb9.mono B8.out.size))
      have KP := Lib.hid (fun a m c W => pin_nil a m c W)
      clear hb9 KC c0 c1 c2 B8
      go_wp2_with fail
      refine (KP.out _ _ _ _).mono ?_
      rintro x w10 ⟨rfl, rfl⟩
      have B10 := Lib.hid (B9.out.trans (((Below.refl w9.heap.size w9).alloc (Nat.le_refl _) (.cells #[.int .i64 n] 3)).mono B9.out.size))
      have KU := Lib.hid (fun a m c W => unpin_nil a m c W)
      clear KP B9
      generalize w9.alloc (.cells #[.int .i64 n] 3) = Y10 at *
      go_wp2_with fail
      refine (KU.out _ _ _ _).mono ?_
      rintro x w11 ⟨rfl, rfl⟩
      have B11 := Lib.hid (B10.out.trans (((Below.refl Y10.heap.size Y10).alloc (Nat.le_refl _) (.cells #[.int .i64 n] 3)).mono B10.out.size))
      have KV := Lib.hid (fun a m c W => evict_nil a m c W)
      clear KU B10
      generalize Y10.alloc (.cells #[.int .i64 n] 3) = Y11 at *
      go_wp2_with fail
      refine (KV.out _ _ _ _).mono ?_
      rintro x w12 ⟨rfl, hb12⟩
      have hba := (Below.refl Y11.heap.size Y11).alloc (Nat.le_refl _) (.cells #[.int .i64 n] 3)
      have B12 := Lib.hid (B11.out.trans ((hba.trans (hb12.mono hba.size)).mono B11.out.size))
      have KD := Lib.hid (fun W => dirtyL_nil W)
      have KH := Lib.hid (fun W => held_nil W)
      have KL := Lib.hid (fun W => len_nil W)
      clear KV B11 hba hb12
      go_wp2_with fail
      refine (KD.out _).mono ?_
      rintro x w13 ⟨rfl, rfl⟩
      clear KD
      go_wp2_with fail
      refine (KH.out _).mono ?_
      rintro x w14 ⟨rfl, rfl⟩
      clear KH
      go_wp2_with fail
      refine (KL.out _).mono ?_
      rintro x w15 ⟨rfl, rfl⟩
      clear KL
      go_wp2
      go_ret
      exact ⟨(by first | rfl | (show Ending.returned (Value.bool (!decide (1 ≤ n))) = _; rw [hd]; rfl)), B12.out⟩
end Go.Proofs.YtpkbopeddhgnlaaGreatDoor
