/-
  TwiceNone: the walk.
-/
import Derived.Test.YtaegpniagpehcaaDoorTwWake
namespace Go.Proofs.YtaegpniagpehcaaDoor
open Go.RowKit
section
variable {w W : World} {D P L M n B T np : Nat} {now : Nat → Pg}
/-- The use by which the power goes. -/
theorem c_last (h : Tk w W D P L M n B T np now (.arm 0)) (hB : B ≤ 900000) :
    Calls Tryd.prog 19 #[.pointer (some ⟨D, 0, none⟩)] W fun x w' => x = .returned (.int .i64 6) ∧ Tk w w' D P L M n (B + 1) T np now .off ∧ Dv.Fr3 P L M W w' := by
  obtain ⟨s, h1, h2, h3⟩ := h
  obtain ⟨pm, g, f⟩ := s
  have h3 : pm = .arm 0 := h3
  subst h3
  refine (sync_s h1.d hB).mono ?_
  rintro x w' ⟨rfl, hd, hf⟩
  exact ⟨rfl, ⟨_, h1.next hd hf, h2.armed _, rfl⟩, hf⟩
theorem c_open_off (h : Tk w W D P L M n B T np now .off) (hB : B + 7 ≤ 900000) (hn : n ≤ 4096) (p : Nat) (h1 : 1 ≤ p) (h2 : p ≤ 64) (h3 : 5 + 4 * p ≤ n) :
    Calls Tryd.prog 14 #[.pointer (some ⟨D, 0, none⟩), .int .i64 (p : Int)] W fun x w' => x = .returned (.tuple #[.pointer none, .int .i64 6]) ∧ Tk w w' D P L M n (B + 7) T np now .off ∧ Dv.Fr3 P L M W w' := by
  obtain ⟨s, q1, q2, q3⟩ := h
  have e : openM p s = (6, s) := by unfold openM; rw [q3]
  have := open_s q1.b hB hn p h1 h2 h3
  rw [e] at this
  refine this.mono ?_
  rintro x w' ⟨U, rfl, hs, hf, _⟩
  exact ⟨by rw [if_neg (show ¬ (6 : Int) = 0 by decide)], ⟨s, q1.next hs.d hf, q2, q3⟩, hf⟩
theorem c_page_off (h : Tk w W D P L M n B T np now .off) (hn : n ≤ 4096) (h3 : 5 + 4 * np ≤ n) (k : Nat) (hk : k < np) :
    Calls Tryd.prog 15 #[.pointer (some ⟨T, 0, none⟩), .int .i64 (k : Int)] W (Pg0 W 6) := by
  obtain ⟨s, q1, q2, q3⟩ := h
  exact page_off q1 q3 hn h3 k hk
def q00 : PgV := ⟨0, 0, none, 0, []⟩
theorem q00_ok : pgOk 0 0 [] = true := by decide
theorem store_off (b : ByteArray) (g : Nat → List UInt8) (f : Int → Option (List UInt8)) : (storeM 0 b ⟨.off, g, f⟩).1 = false := rfl
theorem c_store_off (h : Tk w W D P L M n B T np now .off) (hB : B + 14 ≤ 900000) (hn : n ≤ 4096) (h3 : 5 + 4 * np ≤ n) (hnp : 0 < np) :
    Calls Tryd.prog 12 #[.pointer (some ⟨T, 0, none⟩), .slice (some ⟨W.heap.size, 0, none⟩) 1 1] (W.alloc (.cells #[.int .i64 0, .int .i64 0, .slice none 0 0] 38))
      fun x w' => x = .returned (.int .i64 6) ∧ Below w.heap.size w w' ∧ Dv.Fr3 P L M (W.alloc (.cells #[.int .i64 0, .int .i64 0, .slice none 0 0] 38)) w' := by
  obtain ⟨s, q1, q2, q3⟩ := h
  obtain ⟨pm, g, f⟩ := s
  have q3 : pm = .off := q3
  subst q3
  have hba := (Below.refl W.heap.size W).alloc (Nat.le_refl _) (.cells #[.int .i64 0, .int .i64 0, .slice none 0 0] 38)
  have e4 : (st1 np q00 ⟨.off, g, f⟩).1 = 6 := by
    unfold st1
    rw [if_pos ⟨q00_ok, by show (0 : Int) < _; omega⟩]
    exact er_f (store_off (pgBytes 0 0 []) g f)
  have e5 : (stL np [q00] ⟨.off, g, f⟩).1 = 6 := by
    unfold stL
    rw [if_neg (by rw [e4]; decide)]
    exact e4
  have := store_l (q1.below hba) hn h3 (some ⟨W.heap.size, 0, none⟩) [q00] 1 (by simpa using hB) (fun W1 hf => pgs_new q00 W 38 q1.d.lts.2 (fun _ => .inl rfl) W1 hf) (fun i => by
    match i with
    | 0 => show 0 ≤ maxLen; omega
    | i + 1 => show 0 ≤ maxLen; omega)
  refine this.mono ?_
  rintro x w' ⟨rfl, hs2, hf⟩
  rw [e5]
  exact ⟨rfl, hs2.bw, hf⟩
end
set_option maxRecDepth 100000 in
set_option maxHeartbeats 4000000 in
theorem twiceNone_walk (no pn pg : Int) (a : Option Addr) (l : List (ByteArray × ByteArray)) (c : Nat) (w : World) (hl : l.length ≤ maxLen) (ha : ClsAt w a l) (ht : Tab w) :
    Calls Tryd.prog 4 #[.int .i64 no, .agg #[.int .i64 pn, .int .i64 pg, .slice a l.length c]] w fun x w' => x = .returned (.bool true) ∧ Below w.heap.size w w' := by
  have hb0 := (Below.refl w.heap.size w).alloc (Nat.le_refl _) (.cells #[.int .i64 pn, .int .i64 pg, .slice a l.length c] 38)
  have KG := Lib.hid (great_any pn pg a l c _ hl (ha.below hb0))
  have c0 : (w.alloc (.cells #[.int .i64 pn, .int .i64 pg, .slice a l.length c] 38)).cell? ⟨w.heap.size, 0, none⟩ = some (.int .i64 pn) := Dv.new_cell rfl rfl
  have c1 : (w.alloc (.cells #[.int .i64 pn, .int .i64 pg, .slice a l.length c] 38)).cell? ⟨w.heap.size, 1, none⟩ = some (.int .i64 pg) := Dv.new_cell rfl rfl
  have c2 : (w.alloc (.cells #[.int .i64 pn, .int .i64 pg, .slice a l.length c] 38)).cell? ⟨w.heap.size, 2, none⟩ = some (.slice a l.length c) := Dv.new_cell rfl rfl
  have KW := Lib.hid (fun W hT => awake12_any W W (Below.refl _ _) hT)
  have HT := Lib.hid ht
  clear ha ht
  cases hg : clGreat l with
  | true =>
    rw [hg] at KG
    clear hg
    go_enter Tryd.func4, Tryd.ntmps4
    go_upto_region 1 with fail
    generalize w.alloc (.cells #[.int .i64 pn, .int .i64 pg, .slice a l.length c] 38) = X at *
    go_wp2_with fail
    refine KG.out.mono ?_
    rintro x w1 ⟨rfl, hb1⟩
    have B1 := Lib.hid (hb0.trans (hb1.mono hb0.size))
    clear hb1 KG c0 c1 c2
    go_wp2_with fail
    refine (KW.out _ (HT.out.below B1.out)).mono ?_
    rintro x w2 ⟨rfl, hb2⟩
    have hb3 := B1.out.trans (hb2.mono B1.out.size)
    clear hb2 KW B1
    go_wp2
    go_ret
    exact ⟨rfl, hb3⟩
  | false =>
    rw [hg] at KG
    clear hg
    go_enter Tryd.func4, Tryd.ntmps4
    go_upto_region 1 with fail
    generalize w.alloc (.cells #[.int .i64 pn, .int .i64 pg, .slice a l.length c] 38) = X at *
    go_wp2_with fail
    refine KG.out.mono ?_
    rintro x w1 ⟨rfl, hb1⟩
    have B1 := Lib.hid (hb0.trans (hb1.mono hb0.size))
    have d0 := Dv.keep_cell hb1 c0
    have d1 := Dv.keep_cell hb1 c1
    have d2 := Dv.keep_cell hb1 c2
    clear hb1 KG c0 c1 c2 hb0
    have KO1 := Lib.hid (fun W => open_nil 3 W)
    have KP1 := Lib.hid (fun W => page_nil no W)
    go_wp2_with fail
    refine (KW.out _ (HT.out.below B1.out)).mono ?_
    rintro x w2 ⟨rfl, hb2⟩
    have B2 := Lib.hid (B1.out.trans (hb2.mono B1.out.size))
    have c0 := Dv.keep_cell hb2 d0
    have c1 := Dv.keep_cell hb2 d1
    have c2 := Dv.keep_cell hb2 d2
    have HT2 := Lib.hid (HT.out.below B2.out)
    clear hb2 KW B1 d0 d1 d2 HT
    go_wp2_with fail
    refine (KO1.out _).mono ?_
    rintro x w3 ⟨rfl, rfl⟩
    clear KO1
    have KN := Lib.hid (c_new 30 w2 w2 (Below.refl _ _) HT2.out (by omega) (by omega))
    rw [show ((30 : Nat) : Int) = 30 from rfl] at KN
    go_wp2_with fail
    refine KN.out.mono ?_
    rintro x w4 ⟨D, P, L, M, rfl, hd4, hb4⟩
    have KF := Lib.hid (c_fmt hd4 (by omega) (by omega) 3 (by omega) (by omega) (by omega))
    rw [show ((3 : Nat) : Int) = 3 from rfl] at KF
    clear hd4 hb4 KN
    go_wp2_with fail
    refine KF.out.mono ?_
    rintro x w5 ⟨T, rfl, hk5, hf5⟩
    have KA := Lib.hid (c_arm hk5 (by intro h; cases h) 0 (by omega))
    rw [show ((0 : Nat) : Int) = 0 from rfl] at KA
    clear hk5 hf5 KF
    go_wp2_with fail
    refine KA.out.mono ?_
    rintro x w6 ⟨rfl, hk6, hf6⟩
    have KY := Lib.hid (c_last hk6 (by omega))
    clear hk6 hf6 KA
    go_wp2_with fail
    refine KY.out.mono ?_
    rintro x w7 ⟨rfl, hk7, hf7⟩
    have KO := Lib.hid (c_open_off hk7 (by omega) (by omega) 3 (by omega) (by omega) (by omega))
    rw [show ((3 : Nat) : Int) = 3 from rfl] at KO
    clear hk7 hf7 KY
    go_wp2_with fail
    refine KO.out.mono ?_
    rintro x w8 ⟨rfl, hk8, hf8⟩
    have KP := Lib.hid (c_page_off hk8 (by omega) (by omega) 0 (by omega))
    rw [show ((0 : Nat) : Int) = 0 from rfl] at KP
    have K8 := Lib.hid hk8
    clear hk8 hf8 KO
    go_wp2_with fail
    refine KP.out.mono ?_
    rintro x w9 ⟨rfl, hb9⟩
    have hba := (Below.refl w9.heap.size w9).alloc (Nat.le_refl _) (.cells #[.int .i64 0, .int .i64 0, .slice none 0 0] 38)
    have K9 := Lib.hid ((K8.out.below hb9).below hba)
    clear hb9 hba K8 KP
    go_upto_region 10 with fail
    generalize w9.alloc (.cells #[.int .i64 0, .int .i64 0, .slice none 0 0] 38) = Y9 at *
    go_wp2_with fail
    refine (KP1.out _).mono ?_
    rintro x w10 ⟨rfl, hb10⟩
    have hba := (Below.refl w10.heap.size w10).alloc (Nat.le_refl _) (.cells #[.int .i64 0, .int .i64 0, .slice none 0 0] 38)
    have K10 := Lib.hid ((K9.out.below hb10).below hba)
    clear hb10 hba K9 KP1
    go_upto_region 12 with fail
    generalize w10.alloc (.cells #[.int .i64 0, .int .i64 0, .slice none 0 0] 38) = Y10 at *
    have KS := Lib.hid (c_store_off K10.out (by omega) (by omega) (by omega) (by omega))
    clear K10
    go_wp2_with fail
    refine KS.out.mono ?_
    rintro x w11 ⟨rfl, hb11, hf11⟩
    have e0 := Dv.keep_cell hb11 c0
    have e1 := Dv.keep_cell hb11 c1
    have e2 := Dv.keep_cell hb11 c2
    have B11 := Lib.hid (B2.out.trans (hb11.mono B2.out.size))
    have KZ := Lib.hid (fun a m c W => store_nil a m c W)
    have KG := Lib.hid (fun W => pages_nil W)
    clear hb11 hf11 KS c0 c1 c2 B2
    go_wp2_with fail
    refine (KZ.out _ _ _ _).mono ?_
    rintro x w12 ⟨rfl, rfl⟩
    clear KZ
    have B12 := Lib.hid (B11.out.trans (((Below.refl w11.heap.size w11).alloc (Nat.le_refl _) (.cells #[.int .i64 pn, .int .i64 pg, .slice a l.length c] 38)).mono B11.out.size))
    clear e0 e1 e2 B11
    go_wp2_with fail
    refine (KG.out _).mono ?_
    rintro x w13 ⟨rfl, rfl⟩
    go_wp2
    go_ret
    exact ⟨rfl, B12.out⟩
end Go.Proofs.YtaegpniagpehcaaDoor
