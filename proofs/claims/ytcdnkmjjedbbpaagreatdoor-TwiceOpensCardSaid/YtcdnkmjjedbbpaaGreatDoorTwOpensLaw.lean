/-
  TwiceOpens: the walk.
-/
import Derived.Test.YtcdnkmjjedbbpaaGreatDoorOpn
import Derived.Deep.QuietTactic
import Derived.BigQuiet
namespace Go.Proofs.YtcdnkmjjedbbpaaGreatDoor
open Go.RowKit
set_option maxRecDepth 100000 in
set_option maxHeartbeats 8000000 in
theorem twiceOpens_walk (note copied home : ByteArray) (no : Int) (w : World) (ht : Tab w) :
    Calls Tryz.prog 4 #[.string note, .string copied, .string home, .int .i64 no] w fun x w' => x = .returned (.bool true) ∧ Below w.heap.size w w' := by
  have KW := Lib.hid (fun W hT => awake12_any W W (Below.refl _ _) hT)
  have HT := Lib.hid ht
  clear ht
  by_cases h1 : 64 < note.size
  · have h1' : (64 : Int) < (note.size : Int) := by omega
    clear h1
    go_enter Tryz.func4, Tryz.ntmps4
    go_wp2_with fail
    refine (KW.out _ HT.out).mono ?_
    rintro x w2 ⟨rfl, hb2⟩
    clear KW HT
    go_wp2
    go_ret
    exact ⟨rfl, hb2⟩
  by_cases h2 : 256 < copied.size
  · have h1' : (note.size : Int) ≤ 64 := by omega
    have h2' : (256 : Int) < (copied.size : Int) := by omega
    clear h1 h2
    go_enter Tryz.func4, Tryz.ntmps4
    go_wp2_with fail
    refine (KW.out _ HT.out).mono ?_
    rintro x w2 ⟨rfl, hb2⟩
    clear KW HT
    go_wp2
    go_ret
    exact ⟨rfl, hb2⟩
  by_cases h3 : 256 < home.size
  · have h1' : (note.size : Int) ≤ 64 := by omega
    have h2' : (copied.size : Int) ≤ 256 := by omega
    have h3' : (256 : Int) < (home.size : Int) := by omega
    clear h1 h2 h3
    go_enter Tryz.func4, Tryz.ntmps4
    go_wp2_with fail
    refine (KW.out _ HT.out).mono ?_
    rintro x w2 ⟨rfl, hb2⟩
    clear KW HT
    go_wp2
    go_ret
    exact ⟨rfl, hb2⟩
  have l1 : note.size ≤ 64 := by omega
  have l2 : copied.size ≤ 256 := by omega
  have l3 : home.size ≤ 256 := by omega
  have h1' : (note.size : Int) ≤ 64 := by omega
  have h2' : (copied.size : Int) ≤ 256 := by omega
  have h3' : (home.size : Int) ≤ 256 := by omega
  clear h1 h2 h3
  obtain ⟨k, hk3, hk⟩ : ∃ k : Nat, k < 3 ∧ (IntKind.u64.wrap no).tmod 3 = (k : Int) := by
    have hz : 0 ≤ IntKind.u64.wrap no := by
      show 0 ≤ no.emod _
      exact Int.emod_nonneg _ (by decide)
    refine ⟨((IntKind.u64.wrap no).tmod 3).toNat, ?_, ?_⟩
    · rw [Int.tmod_eq_emod_of_nonneg hz]; omega
    · rw [Int.tmod_eq_emod_of_nonneg hz]; omega
  have ek : IntKind.i64.wrap (k : Int) = (k : Int) := IntWalk.i64_in _ (by omega)
  obtain ⟨q, hq⟩ : ∃ q : Nat, q = 4 * k := ⟨_, rfl⟩
  obtain ⟨ah, hah⟩ : ∃ a : Nat, a = 5 + 4 * k := ⟨_, rfl⟩
  have e4 : IntKind.i64.wrap (4 * (k : Int)) = (q : Int) := by rw [IntWalk.i64_in _ (by omega)]; omega
  have e5 : IntKind.i64.wrap (5 + (q : Int)) = (ah : Int) := by rw [IntWalk.i64_in _ (by omega)]; omega
  obtain ⟨m, hm⟩ : ∃ m, m = 64 - note.size := ⟨_, rfl⟩
  have e0 : IntKind.i64.wrap (64 - (note.size : Int)) = (m : Int) := by rw [IntWalk.i64_in _ (by omega)]; omega
  obtain ⟨z, hz⟩ : ∃ z, z = bstr (zs m) := ⟨_, rfl⟩
  have hzs : z.size = m := by rw [hz, bstr_size]; unfold zs; rw [List.length_replicate]
  have hcat : ¬ 9223372036854775807 < note.size + z.size := by omega
  obtain ⟨N, hN⟩ : ∃ N, N = note ++ z := ⟨_, rfl⟩
  have hNt : N = Dv.txt (Dv.pad note.data.toList) := by rw [hN, hz, hm]; exact padN note
  have hNs : N.size = 64 := by rw [hNt]; exact txt_len (Dv.pad_len (by rw [Dv.ba_len]; exact l1))
  have ha1 : ah + 4 ≤ 17 := by omega
  have HM := Lib.hid (show m ≤ 1000 by omega)
  have HZ := Lib.hid hz
  have HN := Lib.hid hN
  have HNt := Lib.hid hNt
  have HA := Lib.hid hah
  have HK := Lib.hid hk3
  clear hq hm hz hN hNt hah hzs hk3
  go_enter Tryz.func4, Tryz.ntmps4
  go_wp2_with fail
  refine (KW.out _ HT.out).mono ?_
  rintro x w1 ⟨rfl, hb1⟩
  have KN := Lib.hid (c_new 17 w1 w1 (Below.refl _ _) (HT.out.below hb1) (by omega) (by omega))
  rw [show ((17 : Nat) : Int) = 17 from rfl] at KN
  have B1 := Lib.hid hb1
  clear hb1 KW HT
  go_wp2_with fail
  refine KN.out.mono ?_
  rintro x w2 ⟨D, P, L, M, rfl, hd2, hb2⟩
  have KP := Lib.hid (put_s (g := fun _ => Dv.blank64) hd2 (by omega) 0 (by omega) note l1)
  rw [show ((0 : Nat) : Int) = 0 from rfl] at KP
  clear hd2 hb2 KN
  go_wp2_with fail
  refine KP.out.mono ?_
  rintro x w3 ⟨rfl, hd3, hf3⟩
  have r1 := run_zeros m HM.out w3
  have r2 := conv_zeros m w3
  rw [← HZ.out] at r2
  have hba := (Below.refl w3.heap.size w3).alloc (Nat.le_refl _) (.cells (Dv.secC (zs m)).toArray 5)
  have S3 := Lib.hid (hd3.below hba)
  clear hd3 hf3 KP hba
  generalize hX : w3.alloc (.cells (Dv.secC (zs m)).toArray 5) = X at *
  have K1 := Lib.hid (put12_any S3.out (by omega) 1 (by omega) copied l2)
  rw [show ((1 : Nat) : Int) = 1 from rfl] at K1
  go_upto_region 7 with fail
  rw [← HN.out]
  clear r1 r2 hcat hX HZ HN e0
  go_wp2_with fail
  refine K1.out.mono ?_
  rintro x w5 ⟨rfl, hd5, hf5⟩
  have K2 := Lib.hid (put12_any hd5 (by omega) ah ha1 home l3)
  have hcs := pad256_size l2
  have hhs := pad256_size l3
  generalize pad256 copied = C at *
  generalize pad256 home = H at *
  clear hd5 hf5 K1 S3
  go_wp2_with fail
  refine K2.out.mono ?_
  rintro x w6 ⟨rfl, hd6, hf6⟩
  rw [HA.out] at hd6
  clear hf6 K2 e4 e5 hk ek h1' h2' h3' HM ha1 HA
  have S6 := Lib.hid hd6
  clear hd6
  obtain ⟨bl, hbl⟩ : ∃ b, b = bstr (zs 256) := ⟨_, rfl⟩
  obtain ⟨z63, hz63⟩ : ∃ b, b = bstr (zs 63) := ⟨_, rfl⟩
  obtain ⟨y, hy⟩ : ∃ y, y = z64 := ⟨_, rfl⟩
  have hbs : bl.size = 256 := by rw [hbl, bstr_size]; unfold zs; rw [List.length_replicate]
  have hx64 : bl.extract 0 64 = y := by rw [hbl, hy]; exact blk64
  have hx63 : bl.extract 0 63 = z63 := by rw [hbl, hz63]; exact blk63
  have HBL := Lib.hid hbl
  have H63 := Lib.hid hz63
  have HY := Lib.hid hy
  clear hbl hz63 hy
  cases hz : allZ (Dv.txt (Dv.pad note.data.toList)) with
  | true =>
    have hNz : N = y := by rw [HY.out, HNt.out]; exact z_eq (by rw [← HNt.out]; exact hNs) hz
    subst hNz
    have KO := Lib.hid (ob_yes S6.out hz l1 hhs)
    clear S6 hz HNt hNs hcs l1 l2 l3
    go_wp2_with fail
    refine KO.out.mono ?_
    rintro x w7 ⟨T, G, rfl, hs7, hh7⟩
    have r1 := run_zeros 256 (by omega) w7
    rw [show ((256 : Nat) : Int) = 256 from rfl] at r1
    have r2 := conv_zeros 256 w7
    rw [← HBL.out] at r2
    have S8 := Lib.hid (hs7.below ((Below.refl w7.heap.size w7).alloc (Nat.le_refl _) (.cells (Dv.secC (zs 256)).toArray 5)))
    clear hs7 KO
    generalize hX : w7.alloc (.cells (Dv.secC (zs 256)).toArray 5) = X at *
    have KR := Lib.hid (t_read S8.out)
    rw [← HY.out] at KR
    go_wp2_with fail
    refine KR.out.mono ?_
    rintro x w9 ⟨rfl, hb9⟩
    have S9 := Lib.hid (S8.out.below hb9)
    clear S8 hb9 KR r1 r2 hX
    by_cases hHb : H = bl
    · have KG := Lib.hid (t_blank S9.out k HK.out (by rw [hh7, hHb]; exact HBL.out))
      have KD := Lib.hid (rd_none (s := H) (by rw [hHb, HBL.out]; exact read_bl))
      subst hHb
      clear hh7 hhs
      go_wp2_with fail
      refine KG.out.mono ?_
      rintro x w10 ⟨a, c, rfl, hr10, hb10⟩
      have hba := (Below.refl w10.heap.size w10).alloc (Nat.le_refl _) (.cells #[.int .i64 (k : Int), .int .i64 0, .slice a 0 c] 36)
      have S10 := Lib.hid ((S9.out.below hb10).below hba)
      have CA := Lib.hid (hr10.below hba)
      have p0 : (w10.alloc (.cells #[.int .i64 (k : Int), .int .i64 0, .slice a 0 c] 36)).cell? ⟨w10.heap.size, 0, none⟩ = some (.int .i64 (k : Int)) := Dv.new_cell rfl rfl
      have p1 : (w10.alloc (.cells #[.int .i64 (k : Int), .int .i64 0, .slice a 0 c] 36)).cell? ⟨w10.heap.size, 1, none⟩ = some (.int .i64 0) := Dv.new_cell rfl rfl
      have p2 : (w10.alloc (.cells #[.int .i64 (k : Int), .int .i64 0, .slice a 0 c] 36)).cell? ⟨w10.heap.size, 2, none⟩ = some (.slice a 0 c) := Dv.new_cell rfl rfl
      clear hr10 hb10 hba KG S9
      go_upto_region 24 with fail
      generalize hY : w10.alloc (.cells #[.int .i64 (k : Int), .int .i64 0, .slice a 0 c] 36) = Y at *
      clear hY
      go_wp2_with fail
      refine (KD.out Y).mono ?_
      rintro x w11 ⟨rfl, hb11⟩
      have d0 := Dv.keep_alloc (o := (.cells #[.int .i64 0, .int .i64 0, .slice none 0 0] 36)) (Dv.keep_cell hb11 p0)
      have d1 := Dv.keep_alloc (o := (.cells #[.int .i64 0, .int .i64 0, .slice none 0 0] 36)) (Dv.keep_cell hb11 p1)
      have d2 := Dv.keep_alloc (o := (.cells #[.int .i64 0, .int .i64 0, .slice none 0 0] 36)) (Dv.keep_cell hb11 p2)
      have hba := (Below.refl w11.heap.size w11).alloc (Nat.le_refl _) (.cells #[.int .i64 0, .int .i64 0, .slice none 0 0] 36)
      have S11 := Lib.hid ((S10.out.below hb11).below hba)
      have CB := Lib.hid ((CA.out.below hb11).below hba)
      clear p0 p1 p2 hb11 hba KD S10 CA
      go_upto_region 25 with fail
      generalize hZ : w11.alloc (.cells #[.int .i64 0, .int .i64 0, .slice none 0 0] 36) = Z at *
      clear hZ
      have KS := Lib.hid (sm_blank (k : Int) a c Z CB.out)
      go_wp2_with fail
      refine KS.out.mono ?_
      rintro x w12 ⟨rfl, hb12⟩
      have HE := Lib.hid (B1.out.trans ((S11.out.below hb12).s.bw.mono B1.out.size))
      clear KS CB S11 hb12 d0 d1 d2
      go_wp2
      go_ret
      exact ⟨rfl, HE.out⟩
    · have hHc : (H.toList == bl.toList) = false := op_ne hHb
      have HHb := Lib.hid hHb
      clear hHb
      cases hrd : readOf H with
      | none =>
        have KG := Lib.hid (t_bad S9.out k HK.out hh7 (pgAt_none hhs (by rw [← HBL.out]; exact HHb.out) hrd))
        have KD := Lib.hid (rd_none hrd)
        clear hh7 hrd
        go_wp2_with fail
        refine KG.out.mono ?_
        rintro x w10 ⟨rfl, hb10⟩
        have hba := (Below.refl w10.heap.size w10).alloc (Nat.le_refl _) (.cells #[.int .i64 0, .int .i64 0, .slice none 0 0] 36)
        have S10 := Lib.hid ((S9.out.below hb10).below hba)
        clear hb10 hba KG S9
        go_upto_region 24 with fail
        generalize hYB : w10.alloc (.cells #[.int .i64 0, .int .i64 0, .slice none 0 0] 36) = Y at *
        clear hYB
        go_wp2_with fail
        refine (KD.out Y).mono ?_
        rintro x w11 ⟨rfl, hb11⟩
        have hba := (Below.refl w11.heap.size w11).alloc (Nat.le_refl _) (.cells #[.int .i64 0, .int .i64 0, .slice none 0 0] 36)
        have HEB := Lib.hid (B1.out.trans (((S10.out.below hb11).below hba).s.bw.mono B1.out.size))
        clear hb11 hba KD S10
        go_upto_region 25 with fail
        generalize hZB : w11.alloc (.cells #[.int .i64 0, .int .i64 0, .slice none 0 0] 36) = Z at *
        clear hZB
        go_wp2
        go_ret
        exact ⟨rfl, HEB.out⟩
      | some v =>
        obtain ⟨pn, pg, pl⟩ := v
        by_cases hpk : pn = k
        · subst hpk
          have hsm := Lib.hid (rd_small hrd)
          have KG := Lib.hid (t_good S9.out pn HK.out hh7 (pgAt_own hhs (by rw [← HBL.out]; exact HHb.out) hrd))
          have KD := Lib.hid (rd_some hrd)
          clear hh7 hrd
          go_wp2_with fail
          refine KG.out.mono ?_
          rintro x w10 ⟨a, c, rfl, hr10, hb10⟩
          have hba := (Below.refl w10.heap.size w10).alloc (Nat.le_refl _) (.cells #[.int .i64 (pn : Int), .int .i64 (pg : Int), .slice a pl.length c] 36)
          have S10 := Lib.hid ((S9.out.below hb10).below hba)
          have CA := Lib.hid (hr10.below hba)
          have p0 : (w10.alloc (.cells #[.int .i64 (pn : Int), .int .i64 (pg : Int), .slice a pl.length c] 36)).cell? ⟨w10.heap.size, 0, none⟩ = some (.int .i64 (pn : Int)) := Dv.new_cell rfl rfl
          have p1 : (w10.alloc (.cells #[.int .i64 (pn : Int), .int .i64 (pg : Int), .slice a pl.length c] 36)).cell? ⟨w10.heap.size, 1, none⟩ = some (.int .i64 (pg : Int)) := Dv.new_cell rfl rfl
          have p2 : (w10.alloc (.cells #[.int .i64 (pn : Int), .int .i64 (pg : Int), .slice a pl.length c] 36)).cell? ⟨w10.heap.size, 2, none⟩ = some (.slice a pl.length c) := Dv.new_cell rfl rfl
          clear hr10 hb10 hba KG S9
          go_upto_region 24 with fail
          generalize hYC : w10.alloc (.cells #[.int .i64 (pn : Int), .int .i64 (pg : Int), .slice a pl.length c] 36) = Y at *
          clear hYC
          go_wp2_with fail
          refine (KD.out Y).mono ?_
          rintro x w11 ⟨a2, c2, rfl, hr11, hb11⟩
          have d0 := Dv.keep_alloc (o := (.cells #[.int .i64 (pn : Int), .int .i64 (pg : Int), .slice a2 pl.length c2] 36)) (Dv.keep_cell hb11 p0)
          have d1 := Dv.keep_alloc (o := (.cells #[.int .i64 (pn : Int), .int .i64 (pg : Int), .slice a2 pl.length c2] 36)) (Dv.keep_cell hb11 p1)
          have d2 := Dv.keep_alloc (o := (.cells #[.int .i64 (pn : Int), .int .i64 (pg : Int), .slice a2 pl.length c2] 36)) (Dv.keep_cell hb11 p2)
          have f0 : (w11.alloc (.cells #[.int .i64 (pn : Int), .int .i64 (pg : Int), .slice a2 pl.length c2] 36)).cell? ⟨w11.heap.size, 0, none⟩ = some (.int .i64 (pn : Int)) := Dv.new_cell rfl rfl
          have f1 : (w11.alloc (.cells #[.int .i64 (pn : Int), .int .i64 (pg : Int), .slice a2 pl.length c2] 36)).cell? ⟨w11.heap.size, 1, none⟩ = some (.int .i64 (pg : Int)) := Dv.new_cell rfl rfl
          have f2 : (w11.alloc (.cells #[.int .i64 (pn : Int), .int .i64 (pg : Int), .slice a2 pl.length c2] 36)).cell? ⟨w11.heap.size, 2, none⟩ = some (.slice a2 pl.length c2) := Dv.new_cell rfl rfl
          have hba := (Below.refl w11.heap.size w11).alloc (Nat.le_refl _) (.cells #[.int .i64 (pn : Int), .int .i64 (pg : Int), .slice a2 pl.length c2] 36)
          have S11 := Lib.hid ((S10.out.below hb11).below hba)
          have CB := Lib.hid ((CA.out.below hb11).below hba)
          have CC := Lib.hid (hr11.below hba)
          clear p0 p1 p2 hb11 hba KD S10 CA hr11
          go_upto_region 25 with fail
          generalize hZC : w11.alloc (.cells #[.int .i64 (pn : Int), .int .i64 (pg : Int), .slice a2 pl.length c2] 36) = Z at *
          clear hZC
          have KS := Lib.hid (sm_own (pn : Int) (pg : Int) a2 a pl c2 c Z hsm.out CC.out CB.out)
          clear hsm
          go_wp2_with fail
          refine KS.out.mono ?_
          rintro x w12 ⟨rfl, hb12⟩
          have HEC := Lib.hid (B1.out.trans ((S11.out.below hb12).s.bw.mono B1.out.size))
          clear KS CB CC S11 hb12 d0 d1 d2 f0 f1 f2
          go_wp2
          go_ret
          exact ⟨rfl, HEC.out⟩
        · have hpk2 : ¬ (pn : Int) = (k : Int) := by omega
          have KG := Lib.hid (t_bad S9.out k HK.out hh7 (pgAt_other hhs (by rw [← HBL.out]; exact HHb.out) hrd hpk))
          have KD := Lib.hid (rd_some hrd)
          clear hh7 hrd hpk
          go_wp2_with fail
          refine KG.out.mono ?_
          rintro x w10 ⟨rfl, hb10⟩
          have hba := (Below.refl w10.heap.size w10).alloc (Nat.le_refl _) (.cells #[.int .i64 0, .int .i64 0, .slice none 0 0] 36)
          have S10 := Lib.hid ((S9.out.below hb10).below hba)
          clear hb10 hba KG S9
          go_upto_region 24 with fail
          generalize hYD : w10.alloc (.cells #[.int .i64 0, .int .i64 0, .slice none 0 0] 36) = Y at *
          clear hYD
          go_wp2_with fail
          refine (KD.out Y).mono ?_
          rintro x w11 ⟨a, c, rfl, _, hb11⟩
          have hba := (Below.refl w11.heap.size w11).alloc (Nat.le_refl _) (.cells #[.int .i64 (pn : Int), .int .i64 (pg : Int), .slice a pl.length c] 36)
          have HED := Lib.hid (B1.out.trans (((S10.out.below hb11).below hba).s.bw.mono B1.out.size))
          have d0 : (w11.alloc (.cells #[.int .i64 (pn : Int), .int .i64 (pg : Int), .slice a pl.length c] 36)).cell? ⟨w11.heap.size, 0, none⟩ = some (.int .i64 (pn : Int)) := Dv.new_cell rfl rfl
          have d1 : (w11.alloc (.cells #[.int .i64 (pn : Int), .int .i64 (pg : Int), .slice a pl.length c] 36)).cell? ⟨w11.heap.size, 1, none⟩ = some (.int .i64 (pg : Int)) := Dv.new_cell rfl rfl
          have d2 : (w11.alloc (.cells #[.int .i64 (pn : Int), .int .i64 (pg : Int), .slice a pl.length c] 36)).cell? ⟨w11.heap.size, 2, none⟩ = some (.slice a pl.length c) := Dv.new_cell rfl rfl
          clear hb11 hba KD S10
          go_upto_region 25 with fail
          generalize hZD : w11.alloc (.cells #[.int .i64 (pn : Int), .int .i64 (pg : Int), .slice a pl.length c] 36) = Z at *
          clear hZD
          go_wp2
          go_ret
          exact ⟨rfl, HED.out⟩
  | false =>
    have hne : (N.toList == y.toList) = false := op_ne (by rw [HY.out, HNt.out]; exact z_ne hz)
    have ht := op_take hNs
    obtain ⟨n0, h0⟩ : ∃ n0, ∀ h, (N[0]'h).toNat = n0 := ⟨(N[0]'(by omega)).toNat, fun _ => rfl⟩
    obtain ⟨R, hR⟩ : ∃ R, R = N.extract 1 64 := ⟨_, rfl⟩
    have hRs : R.size = 63 := by rw [hR, ByteArray.size_extract]; omega
    rw [h0, ← hR, HNt.out] at ht
    have HTk := Lib.hid ht
    have hR1 : N.extract 1 64 = R := hR.symm
    clear ht hR
    by_cases hbad : n0 < 1 ∨ 3 < n0 ∨ allZ R = false ∨ readOf C = none ∨ ∃ no g l, readOf C = some (no, g, l) ∧ no + 1 ≠ n0
    · have KO := Lib.hid (ob_bad S6.out hcs hz HTk.out hbad)
      have HBAD := Lib.hid hbad
      have HRS := Lib.hid hRs
      have HZ := Lib.hid hz
      have H0 := Lib.hid h0
      clear S6 hz HNt hcs hhs l1 l2 l3 hbad HTk hRs h0
      go_wp2_with fail
      refine KO.out.mono ?_
      rintro x w7 ⟨rfl, hb7, hs7⟩
      have r1 := run_zeros 256 (by omega) w7
      rw [show ((256 : Nat) : Int) = 256 from rfl] at r1
      have r2 := conv_zeros 256 w7
      rw [← HBL.out] at r2
      have B8 := Lib.hid (B1.out.trans ((hb7.trans (((Below.refl w7.heap.size w7).alloc (Nat.le_refl _) (.cells (Dv.secC (zs 256)).toArray 5)).mono hb7.size)).mono B1.out.size))
      clear hb7 hs7 KO
      generalize hX : w7.alloc (.cells (Dv.secC (zs 256)).toArray 5) = X at *
      go_upto_region 12 with fail
      clear r1 r2 hX
      by_cases c1 : n0 < 1
      · have g1 : (n0 : Int) < 1 := by omega
        have KC := Lib.hid (rd_any C X)
        go_wp2_with fail
        refine KC.out.mono ?_
        rintro x w8 ⟨rn, rg, ra, rm, rc, ok, rfl, hb8⟩
        have hba := (Below.refl w8.heap.size w8).alloc (Nat.le_refl _) (.cells #[.int .i64 (rn : Int), .int .i64 (rg : Int), .slice ra rm rc] 36)
        have B9 := Lib.hid ((B8.out.trans (hb8.mono B8.out.size)).trans (hba.mono (B8.out.trans (hb8.mono B8.out.size)).size))
        have p0 : (w8.alloc (.cells #[.int .i64 (rn : Int), .int .i64 (rg : Int), .slice ra rm rc] 36)).cell? ⟨w8.heap.size, 0, none⟩ = some (.int .i64 (rn : Int)) := Dv.new_cell rfl rfl
        have p1 : (w8.alloc (.cells #[.int .i64 (rn : Int), .int .i64 (rg : Int), .slice ra rm rc] 36)).cell? ⟨w8.heap.size, 1, none⟩ = some (.int .i64 (rg : Int)) := Dv.new_cell rfl rfl
        have p2 : (w8.alloc (.cells #[.int .i64 (rn : Int), .int .i64 (rg : Int), .slice ra rm rc] 36)).cell? ⟨w8.heap.size, 2, none⟩ = some (.slice ra rm rc) := Dv.new_cell rfl rfl
        clear hb8 hba KC
        go_upto_region 13 with fail
        generalize hY : w8.alloc (.cells #[.int .i64 (rn : Int), .int .i64 (rg : Int), .slice ra rm rc] 36) = Y at *
        clear hY
        have h0 := H0.out
        go_quiet (fail)
        clear h0
        have HE := Lib.hid (below_drewN B9.out nq)
        go_wp2
        go_ret
        exact ⟨rfl, HE.out⟩
      · have g1 : 1 ≤ (n0 : Int) := by omega
        have d1 : decide ((n0 : Int) < 1) = false := by simpa using g1
        by_cases c2 : 3 < n0
        · have g2 : 3 < (n0 : Int) := by omega
          have KC := Lib.hid (rd_any C X)
          go_wp2_with fail
          refine KC.out.mono ?_
          rintro x w8 ⟨rn, rg, ra, rm, rc, ok, rfl, hb8⟩
          have hba := (Below.refl w8.heap.size w8).alloc (Nat.le_refl _) (.cells #[.int .i64 (rn : Int), .int .i64 (rg : Int), .slice ra rm rc] 36)
          have B9 := Lib.hid ((B8.out.trans (hb8.mono B8.out.size)).trans (hba.mono (B8.out.trans (hb8.mono B8.out.size)).size))
          have p0 : (w8.alloc (.cells #[.int .i64 (rn : Int), .int .i64 (rg : Int), .slice ra rm rc] 36)).cell? ⟨w8.heap.size, 0, none⟩ = some (.int .i64 (rn : Int)) := Dv.new_cell rfl rfl
          have p1 : (w8.alloc (.cells #[.int .i64 (rn : Int), .int .i64 (rg : Int), .slice ra rm rc] 36)).cell? ⟨w8.heap.size, 1, none⟩ = some (.int .i64 (rg : Int)) := Dv.new_cell rfl rfl
          have p2 : (w8.alloc (.cells #[.int .i64 (rn : Int), .int .i64 (rg : Int), .slice ra rm rc] 36)).cell? ⟨w8.heap.size, 2, none⟩ = some (.slice ra rm rc) := Dv.new_cell rfl rfl
          clear hb8 hba KC
          go_upto_region 13 with fail
          generalize hY : w8.alloc (.cells #[.int .i64 (rn : Int), .int .i64 (rg : Int), .slice ra rm rc] 36) = Y at *
          clear hY
          have h0 := H0.out
          go_quiet (fail)
          clear h0
          have HE := Lib.hid (below_drewN B9.out nq)
          go_wp2
          go_ret
          exact ⟨rfl, HE.out⟩
        · have g2 : (n0 : Int) ≤ 3 := by omega
          have d2 : decide (3 < (n0 : Int)) = false := by simpa using g2
          cases hzR : allZ R with
          | false =>
            have hRz : (R.toList == z63.toList) = false := op_ne (by rw [H63.out]; exact z_ne hzR)
            clear hzR
            have KC := Lib.hid (rd_any C X)
            go_wp2_with fail
            refine KC.out.mono ?_
            rintro x w8 ⟨rn, rg, ra, rm, rc, ok, rfl, hb8⟩
            have hba := (Below.refl w8.heap.size w8).alloc (Nat.le_refl _) (.cells #[.int .i64 (rn : Int), .int .i64 (rg : Int), .slice ra rm rc] 36)
            have B9 := Lib.hid ((B8.out.trans (hb8.mono B8.out.size)).trans (hba.mono (B8.out.trans (hb8.mono B8.out.size)).size))
            have p0 : (w8.alloc (.cells #[.int .i64 (rn : Int), .int .i64 (rg : Int), .slice ra rm rc] 36)).cell? ⟨w8.heap.size, 0, none⟩ = some (.int .i64 (rn : Int)) := Dv.new_cell rfl rfl
            have p1 : (w8.alloc (.cells #[.int .i64 (rn : Int), .int .i64 (rg : Int), .slice ra rm rc] 36)).cell? ⟨w8.heap.size, 1, none⟩ = some (.int .i64 (rg : Int)) := Dv.new_cell rfl rfl
            have p2 : (w8.alloc (.cells #[.int .i64 (rn : Int), .int .i64 (rg : Int), .slice ra rm rc] 36)).cell? ⟨w8.heap.size, 2, none⟩ = some (.slice ra rm rc) := Dv.new_cell rfl rfl
            clear hb8 hba KC
            go_upto_region 13 with fail
            generalize hY : w8.alloc (.cells #[.int .i64 (rn : Int), .int .i64 (rg : Int), .slice ra rm rc] 36) = Y at *
            clear hY
            have h0 := H0.out
            go_quiet (fail)
            clear h0
            have HE := Lib.hid (below_drewN B9.out nq)
            go_wp2
            go_ret
            exact ⟨rfl, HE.out⟩
          | true =>
            have hRz : R = z63 := by rw [H63.out]; exact z_eq HRS.out hzR
            subst hRz
            cases hrd : readOf C with
            | none =>
              have KC := Lib.hid (rd_none hrd X)
              go_wp2_with fail
              refine KC.out.mono ?_
              rintro x w8 ⟨rfl, hb8⟩
              have hba := (Below.refl w8.heap.size w8).alloc (Nat.le_refl _) (.cells #[.int .i64 0, .int .i64 0, .slice none 0 0] 36)
              have B9 := Lib.hid ((B8.out.trans (hb8.mono B8.out.size)).trans (hba.mono (B8.out.trans (hb8.mono B8.out.size)).size))
              have p0 : (w8.alloc (.cells #[.int .i64 0, .int .i64 0, .slice none 0 0] 36)).cell? ⟨w8.heap.size, 0, none⟩ = some (.int .i64 0) := Dv.new_cell rfl rfl
              have p1 : (w8.alloc (.cells #[.int .i64 0, .int .i64 0, .slice none 0 0] 36)).cell? ⟨w8.heap.size, 1, none⟩ = some (.int .i64 0) := Dv.new_cell rfl rfl
              have p2 : (w8.alloc (.cells #[.int .i64 0, .int .i64 0, .slice none 0 0] 36)).cell? ⟨w8.heap.size, 2, none⟩ = some (.slice none 0 0) := Dv.new_cell rfl rfl
              clear hb8 hba KC
              go_upto_region 13 with fail
              generalize hY : w8.alloc (.cells #[.int .i64 0, .int .i64 0, .slice none 0 0] 36) = Y at *
              clear hY
              have h0 := H0.out
              clear hrd
              go_quiet (fail)
              clear h0
              have HE := Lib.hid (below_drewN B9.out nq)
              go_wp2
              go_ret
              exact ⟨rfl, HE.out⟩
            | some v =>
              obtain ⟨pn, pg, pl⟩ := v
              obtain ⟨n1, hn1⟩ : ∃ n1, n1 + 1 = n0 := ⟨n0 - 1, by omega⟩
              have e1 : IntKind.i64.wrap ((n0 : Int) - 1) = (n1 : Int) := by rw [IntWalk.i64_in _ (by omega)]; omega
              have e2 : IntKind.i64.wrap (n0 : Int) = (n0 : Int) := IntWalk.i64_in _ (by omega)
              have hpn : ¬ (pn : Int) = (n1 : Int) := by
                intro e
                rcases HBAD.out with h | h | h | h | ⟨a, b, c, h, h2⟩
                · exact c1 h
                · exact c2 h
                · rw [hzR] at h; cases h
                · rw [hrd] at h; cases h
                · rw [hrd] at h
                  injection h with h
                  injection h with h _
                  omega
              have E1 := Lib.hid e1
              have E2 := Lib.hid e2
              clear e1 e2 hn1 c1 c2 hzR HBAD
              have KC := Lib.hid (rd_some hrd X)
              go_wp2_with fail
              refine KC.out.mono ?_
              rintro x w8 ⟨a, c, rfl, _, hb8⟩
              have hba := (Below.refl w8.heap.size w8).alloc (Nat.le_refl _) (.cells #[.int .i64 (pn : Int), .int .i64 (pg : Int), .slice a pl.length c] 36)
              have B9 := Lib.hid ((B8.out.trans (hb8.mono B8.out.size)).trans (hba.mono (B8.out.trans (hb8.mono B8.out.size)).size))
              have p0 : (w8.alloc (.cells #[.int .i64 (pn : Int), .int .i64 (pg : Int), .slice a pl.length c] 36)).cell? ⟨w8.heap.size, 0, none⟩ = some (.int .i64 (pn : Int)) := Dv.new_cell rfl rfl
              have p1 : (w8.alloc (.cells #[.int .i64 (pn : Int), .int .i64 (pg : Int), .slice a pl.length c] 36)).cell? ⟨w8.heap.size, 1, none⟩ = some (.int .i64 (pg : Int)) := Dv.new_cell rfl rfl
              have p2 : (w8.alloc (.cells #[.int .i64 (pn : Int), .int .i64 (pg : Int), .slice a pl.length c] 36)).cell? ⟨w8.heap.size, 2, none⟩ = some (.slice a pl.length c) := Dv.new_cell rfl rfl
              clear hb8 hba KC
              go_upto_region 13 with fail
              generalize hY : w8.alloc (.cells #[.int .i64 (pn : Int), .int .i64 (pg : Int), .slice a pl.length c] 36) = Y at *
              clear hY
              have h0 := H0.out
              have e1 := E1.out
              have e2 := E2.out
              clear hrd
              go_quiet (fail)
              clear h0
              have HE := Lib.hid (below_drewN B9.out nq)
              go_wp2
              go_ret
              exact ⟨rfl, HE.out⟩
    · have c1 : 1 ≤ n0 := by
        by_cases h : n0 < 1
        · exact (hbad (.inl h)).elim
        · omega
      have c2 : n0 ≤ 3 := by
        by_cases h : 3 < n0
        · exact (hbad (.inr (.inl h))).elim
        · omega
      cases hzR : allZ R with
      | false => exact (hbad (.inr (.inr (.inl hzR)))).elim
      | true =>
        cases hrd : readOf C with
        | none => exact (hbad (.inr (.inr (.inr (.inl hrd))))).elim
        | some v =>
          obtain ⟨pn, pg, pl⟩ := v
          by_cases hpn : pn + 1 = n0
          · clear hbad
            have hRz : R = z63 := by rw [H63.out]; exact z_eq hRs hzR
            have KO := Lib.hid (ob_good S6.out hcs hhs hz HTk.out c1 c2 hzR hrd hpn)
            have HSM := Lib.hid (rd_small hrd)
            have hCb : ¬ C = bl := fun e => by rw [e, HBL.out, read_bl] at hrd; cases hrd
            have KPG := Lib.hid (pgAt_own hcs (by rw [← HBL.out]; exact hCb) hrd)
            have KC := Lib.hid (fun W => rd_some hrd W)
            have HP3 := Lib.hid (show pn < 3 by omega)
            have HCB := Lib.hid hCb
            have HRD := Lib.hid hrd
            have E1 := Lib.hid (show IntKind.i64.wrap ((n0 : Int) - 1) = (pn : Int) by rw [IntWalk.i64_in _ (by omega)]; omega)
            have E2 := Lib.hid (show IntKind.i64.wrap (n0 : Int) = (n0 : Int) from IntWalk.i64_in _ (by omega))
            have G1 := Lib.hid (show 1 ≤ (n0 : Int) ∧ (n0 : Int) ≤ 3 by omega)
            have D1 := Lib.hid (show decide ((n0 : Int) < 1) = false from decide_eq_false (by omega))
            have D2 := Lib.hid (show decide (3 < (n0 : Int)) = false from decide_eq_false (by omega))
            subst hRz
            have H0 := Lib.hid h0
            clear S6 hz HNt l1 l2 l3 HTk hRs h0 hzR c1 c2 hrd hCb hpn
            go_wp2_with fail
            refine KO.out.mono ?_
            rintro x w7 ⟨T, G, rfl, hs7, hc7, hh7⟩
            have r1 := run_zeros 256 (by omega) w7
            rw [show ((256 : Nat) : Int) = 256 from rfl] at r1
            have r2 := conv_zeros 256 w7
            rw [← HBL.out] at r2
            have S7 := Lib.hid (hs7.below ((Below.refl w7.heap.size w7).alloc (Nat.le_refl _) (.cells (Dv.secC (zs 256)).toArray 5)))
            clear hs7 KO
            generalize hX : w7.alloc (.cells (Dv.secC (zs 256)).toArray 5) = X0 at *
            go_upto_region 12 with fail
            clear r1 r2 hX
            have HH7 := Lib.hid hh7
            clear hh7
            go_wp2_with fail
            refine (KC.out X0).mono ?_
            rintro x w8 ⟨a0, c0, rfl, hr8, hb8⟩
            have hba := (Below.refl w8.heap.size w8).alloc (Nat.le_refl _) (.cells #[.int .i64 (pn : Int), .int .i64 (pg : Int), .slice a0 pl.length c0] 36)
            have S71 := Lib.hid ((S7.out.below hb8).below hba)
            have CP := Lib.hid (hr8.below hba)
            have i0 : (w8.alloc (.cells #[.int .i64 (pn : Int), .int .i64 (pg : Int), .slice a0 pl.length c0] 36)).cell? ⟨w8.heap.size, 0, none⟩ = some (.int .i64 (pn : Int)) := Dv.new_cell rfl rfl
            have i1 : (w8.alloc (.cells #[.int .i64 (pn : Int), .int .i64 (pg : Int), .slice a0 pl.length c0] 36)).cell? ⟨w8.heap.size, 1, none⟩ = some (.int .i64 (pg : Int)) := Dv.new_cell rfl rfl
            have i2 : (w8.alloc (.cells #[.int .i64 (pn : Int), .int .i64 (pg : Int), .slice a0 pl.length c0] 36)).cell? ⟨w8.heap.size, 2, none⟩ = some (.slice a0 pl.length c0) := Dv.new_cell rfl rfl
            clear hr8 hb8 hba KC S7
            go_upto_region 13 with fail
            generalize hY : w8.alloc (.cells #[.int .i64 (pn : Int), .int .i64 (pg : Int), .slice a0 pl.length c0] 36) = Y0 at *
            clear hY
            have h0 := H0.out
            have e1 := E1.out
            have e2 := E2.out
            have d1 := D1.out
            have d2 := D2.out
            obtain ⟨g1, g2⟩ := G1.out
            go_quiet (fail)
            clear h0 e1 e2 d1 d2 g1 g2 H0 E1 E2 D1 D2 G1
            have hbq := below_drewN (Below.refl Y0.heap.size Y0) nq
            have S8 := Lib.hid (S71.out.below hbq)
            have CP1 := Lib.hid (CP.out.below hbq)
            have i0 : (Y0.drewN nq).cell? ⟨w8.heap.size, 0, none⟩ = some (.int .i64 (pn : Int)) := i0
            have i1 : (Y0.drewN nq).cell? ⟨w8.heap.size, 1, none⟩ = some (.int .i64 (pg : Int)) := i1
            have i2 : (Y0.drewN nq).cell? ⟨w8.heap.size, 2, none⟩ = some (.slice a0 pl.length c0) := i2
            clear S71 CP hbq
            generalize Y0.drewN nq = X at *
            by_cases hpk : pn = k
            · subst hpk
              have hh7 := hc7
              have KR := Lib.hid (t_read S8.out)
              rw [← HY.out] at KR
              clear HH7 hc7
              go_wp2_with fail
              refine KR.out.mono ?_
              rintro x w9 ⟨rfl, hb9⟩
              have S9 := Lib.hid (S8.out.below hb9)
              clear S8 hb9 KR
              have hHc : (C.toList == bl.toList) = false := op_ne HCB.out
              have hsm := HSM
              have KG := Lib.hid (t_good S9.out pn HP3.out hh7 KPG.out)
              have KD := Lib.hid (rd_some HRD.out)
              clear hh7 KPG HRD HCB HSM CP1 i0 i1 i2
              go_wp2_with fail
              refine KG.out.mono ?_
              rintro x w10 ⟨a, c, rfl, hr10, hb10⟩
              have hba := (Below.refl w10.heap.size w10).alloc (Nat.le_refl _) (.cells #[.int .i64 (pn : Int), .int .i64 (pg : Int), .slice a pl.length c] 36)
              have S10 := Lib.hid ((S9.out.below hb10).below hba)
              have CA := Lib.hid (hr10.below hba)
              have p0 : (w10.alloc (.cells #[.int .i64 (pn : Int), .int .i64 (pg : Int), .slice a pl.length c] 36)).cell? ⟨w10.heap.size, 0, none⟩ = some (.int .i64 (pn : Int)) := Dv.new_cell rfl rfl
              have p1 : (w10.alloc (.cells #[.int .i64 (pn : Int), .int .i64 (pg : Int), .slice a pl.length c] 36)).cell? ⟨w10.heap.size, 1, none⟩ = some (.int .i64 (pg : Int)) := Dv.new_cell rfl rfl
              have p2 : (w10.alloc (.cells #[.int .i64 (pn : Int), .int .i64 (pg : Int), .slice a pl.length c] 36)).cell? ⟨w10.heap.size, 2, none⟩ = some (.slice a pl.length c) := Dv.new_cell rfl rfl
              clear hr10 hb10 hba KG S9
              go_upto_region 24 with fail
              generalize hYC : w10.alloc (.cells #[.int .i64 (pn : Int), .int .i64 (pg : Int), .slice a pl.length c] 36) = Y at *
              clear hYC
              go_wp2_with fail
              refine (KD.out Y).mono ?_
              rintro x w11 ⟨a2, c2, rfl, hr11, hb11⟩
              have d0 := Dv.keep_alloc (o := (.cells #[.int .i64 (pn : Int), .int .i64 (pg : Int), .slice a2 pl.length c2] 36)) (Dv.keep_cell hb11 p0)
              have d1 := Dv.keep_alloc (o := (.cells #[.int .i64 (pn : Int), .int .i64 (pg : Int), .slice a2 pl.length c2] 36)) (Dv.keep_cell hb11 p1)
              have d2 := Dv.keep_alloc (o := (.cells #[.int .i64 (pn : Int), .int .i64 (pg : Int), .slice a2 pl.length c2] 36)) (Dv.keep_cell hb11 p2)
              have f0 : (w11.alloc (.cells #[.int .i64 (pn : Int), .int .i64 (pg : Int), .slice a2 pl.length c2] 36)).cell? ⟨w11.heap.size, 0, none⟩ = some (.int .i64 (pn : Int)) := Dv.new_cell rfl rfl
              have f1 : (w11.alloc (.cells #[.int .i64 (pn : Int), .int .i64 (pg : Int), .slice a2 pl.length c2] 36)).cell? ⟨w11.heap.size, 1, none⟩ = some (.int .i64 (pg : Int)) := Dv.new_cell rfl rfl
              have f2 : (w11.alloc (.cells #[.int .i64 (pn : Int), .int .i64 (pg : Int), .slice a2 pl.length c2] 36)).cell? ⟨w11.heap.size, 2, none⟩ = some (.slice a2 pl.length c2) := Dv.new_cell rfl rfl
              have hba := (Below.refl w11.heap.size w11).alloc (Nat.le_refl _) (.cells #[.int .i64 (pn : Int), .int .i64 (pg : Int), .slice a2 pl.length c2] 36)
              have S11 := Lib.hid ((S10.out.below hb11).below hba)
              have CB := Lib.hid ((CA.out.below hb11).below hba)
              have CC := Lib.hid (hr11.below hba)
              clear p0 p1 p2 hb11 hba KD S10 CA hr11
              go_upto_region 25 with fail
              generalize hZC : w11.alloc (.cells #[.int .i64 (pn : Int), .int .i64 (pg : Int), .slice a2 pl.length c2] 36) = Z at *
              clear hZC
              have KS := Lib.hid (sm_own (pn : Int) (pg : Int) a2 a pl c2 c Z hsm.out CC.out CB.out)
              clear hsm
              go_wp2_with fail
              refine KS.out.mono ?_
              rintro x w12 ⟨rfl, hb12⟩
              have HEC := Lib.hid (B1.out.trans ((S11.out.below hb12).s.bw.mono B1.out.size))
              clear KS CB CC S11 hb12 d0 d1 d2 f0 f1 f2
              go_wp2
              go_ret
              exact ⟨rfl, HEC.out⟩
            · have hpk2 : ¬ (pn : Int) = (k : Int) := by omega
              have KQ := Lib.hid (t_good S8.out pn HP3.out hc7 KPG.out)
              have hh7 := HH7.out hpk
              clear HH7 hc7 KPG
              go_wp2_with fail
              refine KQ.out.mono ?_
              rintro x wa ⟨aa, ca, rfl, hra, hbx⟩
              have hba := (Below.refl wa.heap.size wa).alloc (Nat.le_refl _) (.cells #[.int .i64 (pn : Int), .int .i64 (pg : Int), .slice aa pl.length ca] 36)
              have SA := Lib.hid ((S8.out.below hbx).below hba)
              have CA0 := Lib.hid (hra.below hba)
              have CP2 := Lib.hid ((CP1.out.below hbx).below hba)
              have j0 := Dv.keep_alloc (o := (.cells #[.int .i64 (pn : Int), .int .i64 (pg : Int), .slice aa pl.length ca] 36)) (Dv.keep_cell hbx i0)
              have j1 := Dv.keep_alloc (o := (.cells #[.int .i64 (pn : Int), .int .i64 (pg : Int), .slice aa pl.length ca] 36)) (Dv.keep_cell hbx i1)
              have j2 := Dv.keep_alloc (o := (.cells #[.int .i64 (pn : Int), .int .i64 (pg : Int), .slice aa pl.length ca] 36)) (Dv.keep_cell hbx i2)
              have v0 : (wa.alloc (.cells #[.int .i64 (pn : Int), .int .i64 (pg : Int), .slice aa pl.length ca] 36)).cell? ⟨wa.heap.size, 0, none⟩ = some (.int .i64 (pn : Int)) := Dv.new_cell rfl rfl
              have v1 : (wa.alloc (.cells #[.int .i64 (pn : Int), .int .i64 (pg : Int), .slice aa pl.length ca] 36)).cell? ⟨wa.heap.size, 1, none⟩ = some (.int .i64 (pg : Int)) := Dv.new_cell rfl rfl
              have v2 : (wa.alloc (.cells #[.int .i64 (pn : Int), .int .i64 (pg : Int), .slice aa pl.length ca] 36)).cell? ⟨wa.heap.size, 2, none⟩ = some (.slice aa pl.length ca) := Dv.new_cell rfl rfl
              clear hbx hba KQ S8 CP1 hra i0 i1 i2
              go_upto_region 18 with fail
              generalize hY : wa.alloc (.cells #[.int .i64 (pn : Int), .int .i64 (pg : Int), .slice aa pl.length ca] 36) = V at *
              clear hY
              have KS := Lib.hid (sm_own (pn : Int) (pg : Int) a0 aa pl c0 ca V HSM.out CP2.out CA0.out)
              go_wp2_with fail
              refine KS.out.mono ?_
              rintro x X1 ⟨rfl, hbx⟩
              have S8 := Lib.hid (SA.out.below hbx)
              have KR := Lib.hid (t_read S8.out)
              rw [← HY.out] at KR
              clear KS CP2 CA0 SA hbx j0 j1 j2 v0 v1 v2 hpk hpk2 HSM HRD HP3 hcs
              go_wp2_with fail
              refine KR.out.mono ?_
              rintro x w9 ⟨rfl, hb9⟩
              have S9 := Lib.hid (S8.out.below hb9)
              clear S8 hb9 KR
              by_cases hHb : H = bl
              · have KG := Lib.hid (t_blank S9.out k HK.out (by rw [hh7, hHb]; exact HBL.out))
                have KD := Lib.hid (rd_none (s := H) (by rw [hHb, HBL.out]; exact read_bl))
                subst hHb
                clear hh7 hhs
                go_wp2_with fail
                refine KG.out.mono ?_
                rintro x w10 ⟨a, c, rfl, hr10, hb10⟩
                have hba := (Below.refl w10.heap.size w10).alloc (Nat.le_refl _) (.cells #[.int .i64 (k : Int), .int .i64 0, .slice a 0 c] 36)
                have S10 := Lib.hid ((S9.out.below hb10).below hba)
                have CA := Lib.hid (hr10.below hba)
                have p0 : (w10.alloc (.cells #[.int .i64 (k : Int), .int .i64 0, .slice a 0 c] 36)).cell? ⟨w10.heap.size, 0, none⟩ = some (.int .i64 (k : Int)) := Dv.new_cell rfl rfl
                have p1 : (w10.alloc (.cells #[.int .i64 (k : Int), .int .i64 0, .slice a 0 c] 36)).cell? ⟨w10.heap.size, 1, none⟩ = some (.int .i64 0) := Dv.new_cell rfl rfl
                have p2 : (w10.alloc (.cells #[.int .i64 (k : Int), .int .i64 0, .slice a 0 c] 36)).cell? ⟨w10.heap.size, 2, none⟩ = some (.slice a 0 c) := Dv.new_cell rfl rfl
                clear hr10 hb10 hba KG S9
                go_upto_region 24 with fail
                generalize hY : w10.alloc (.cells #[.int .i64 (k : Int), .int .i64 0, .slice a 0 c] 36) = Y at *
                clear hY
                go_wp2_with fail
                refine (KD.out Y).mono ?_
                rintro x w11 ⟨rfl, hb11⟩
                have d0 := Dv.keep_alloc (o := (.cells #[.int .i64 0, .int .i64 0, .slice none 0 0] 36)) (Dv.keep_cell hb11 p0)
                have d1 := Dv.keep_alloc (o := (.cells #[.int .i64 0, .int .i64 0, .slice none 0 0] 36)) (Dv.keep_cell hb11 p1)
                have d2 := Dv.keep_alloc (o := (.cells #[.int .i64 0, .int .i64 0, .slice none 0 0] 36)) (Dv.keep_cell hb11 p2)
                have hba := (Below.refl w11.heap.size w11).alloc (Nat.le_refl _) (.cells #[.int .i64 0, .int .i64 0, .slice none 0 0] 36)
                have S11 := Lib.hid ((S10.out.below hb11).below hba)
                have CB := Lib.hid ((CA.out.below hb11).below hba)
                clear p0 p1 p2 hb11 hba KD S10 CA
                go_upto_region 25 with fail
                generalize hZ : w11.alloc (.cells #[.int .i64 0, .int .i64 0, .slice none 0 0] 36) = Z at *
                clear hZ
                have KS := Lib.hid (sm_blank (k : Int) a c Z CB.out)
                go_wp2_with fail
                refine KS.out.mono ?_
                rintro x w12 ⟨rfl, hb12⟩
                have HE := Lib.hid (B1.out.trans ((S11.out.below hb12).s.bw.mono B1.out.size))
                clear KS CB S11 hb12 d0 d1 d2
                go_wp2
                go_ret
                exact ⟨rfl, HE.out⟩
              · have hHc : (H.toList == bl.toList) = false := op_ne hHb
                have HHb := Lib.hid hHb
                clear hHb
                cases hrd : readOf H with
                | none =>
                  have KG := Lib.hid (t_bad S9.out k HK.out hh7 (pgAt_none hhs (by rw [← HBL.out]; exact HHb.out) hrd))
                  have KD := Lib.hid (rd_none hrd)
                  clear hh7 hrd
                  go_wp2_with fail
                  refine KG.out.mono ?_
                  rintro x w10 ⟨rfl, hb10⟩
                  have hba := (Below.refl w10.heap.size w10).alloc (Nat.le_refl _) (.cells #[.int .i64 0, .int .i64 0, .slice none 0 0] 36)
                  have S10 := Lib.hid ((S9.out.below hb10).below hba)
                  clear hb10 hba KG S9
                  go_upto_region 24 with fail
                  generalize hYB : w10.alloc (.cells #[.int .i64 0, .int .i64 0, .slice none 0 0] 36) = Y at *
                  clear hYB
                  go_wp2_with fail
                  refine (KD.out Y).mono ?_
                  rintro x w11 ⟨rfl, hb11⟩
                  have hba := (Below.refl w11.heap.size w11).alloc (Nat.le_refl _) (.cells #[.int .i64 0, .int .i64 0, .slice none 0 0] 36)
                  have HEB := Lib.hid (B1.out.trans (((S10.out.below hb11).below hba).s.bw.mono B1.out.size))
                  clear hb11 hba KD S10
                  go_upto_region 25 with fail
                  generalize hZB : w11.alloc (.cells #[.int .i64 0, .int .i64 0, .slice none 0 0] 36) = Z at *
                  clear hZB
                  go_wp2
                  go_ret
                  exact ⟨rfl, HEB.out⟩
                | some v =>
                  obtain ⟨pn, pg, pl⟩ := v
                  by_cases hpk : pn = k
                  · subst hpk
                    have hsm := Lib.hid (rd_small hrd)
                    have KG := Lib.hid (t_good S9.out pn HK.out hh7 (pgAt_own hhs (by rw [← HBL.out]; exact HHb.out) hrd))
                    have KD := Lib.hid (rd_some hrd)
                    clear hh7 hrd
                    go_wp2_with fail
                    refine KG.out.mono ?_
                    rintro x w10 ⟨a, c, rfl, hr10, hb10⟩
                    have hba := (Below.refl w10.heap.size w10).alloc (Nat.le_refl _) (.cells #[.int .i64 (pn : Int), .int .i64 (pg : Int), .slice a pl.length c] 36)
                    have S10 := Lib.hid ((S9.out.below hb10).below hba)
                    have CA := Lib.hid (hr10.below hba)
                    have p0 : (w10.alloc (.cells #[.int .i64 (pn : Int), .int .i64 (pg : Int), .slice a pl.length c] 36)).cell? ⟨w10.heap.size, 0, none⟩ = some (.int .i64 (pn : Int)) := Dv.new_cell rfl rfl
                    have p1 : (w10.alloc (.cells #[.int .i64 (pn : Int), .int .i64 (pg : Int), .slice a pl.length c] 36)).cell? ⟨w10.heap.size, 1, none⟩ = some (.int .i64 (pg : Int)) := Dv.new_cell rfl rfl
                    have p2 : (w10.alloc (.cells #[.int .i64 (pn : Int), .int .i64 (pg : Int), .slice a pl.length c] 36)).cell? ⟨w10.heap.size, 2, none⟩ = some (.slice a pl.length c) := Dv.new_cell rfl rfl
                    clear hr10 hb10 hba KG S9
                    go_upto_region 24 with fail
                    generalize hYC : w10.alloc (.cells #[.int .i64 (pn : Int), .int .i64 (pg : Int), .slice a pl.length c] 36) = Y at *
                    clear hYC
                    go_wp2_with fail
                    refine (KD.out Y).mono ?_
                    rintro x w11 ⟨a2, c2, rfl, hr11, hb11⟩
                    have d0 := Dv.keep_alloc (o := (.cells #[.int .i64 (pn : Int), .int .i64 (pg : Int), .slice a2 pl.length c2] 36)) (Dv.keep_cell hb11 p0)
                    have d1 := Dv.keep_alloc (o := (.cells #[.int .i64 (pn : Int), .int .i64 (pg : Int), .slice a2 pl.length c2] 36)) (Dv.keep_cell hb11 p1)
                    have d2 := Dv.keep_alloc (o := (.cells #[.int .i64 (pn : Int), .int .i64 (pg : Int), .slice a2 pl.length c2] 36)) (Dv.keep_cell hb11 p2)
                    have f0 : (w11.alloc (.cells #[.int .i64 (pn : Int), .int .i64 (pg : Int), .slice a2 pl.length c2] 36)).cell? ⟨w11.heap.size, 0, none⟩ = some (.int .i64 (pn : Int)) := Dv.new_cell rfl rfl
                    have f1 : (w11.alloc (.cells #[.int .i64 (pn : Int), .int .i64 (pg : Int), .slice a2 pl.length c2] 36)).cell? ⟨w11.heap.size, 1, none⟩ = some (.int .i64 (pg : Int)) := Dv.new_cell rfl rfl
                    have f2 : (w11.alloc (.cells #[.int .i64 (pn : Int), .int .i64 (pg : Int), .slice a2 pl.length c2] 36)).cell? ⟨w11.heap.size, 2, none⟩ = some (.slice a2 pl.length c2) := Dv.new_cell rfl rfl
                    have hba := (Below.refl w11.heap.size w11).alloc (Nat.le_refl _) (.cells #[.int .i64 (pn : Int), .int .i64 (pg : Int), .slice a2 pl.length c2] 36)
                    have S11 := Lib.hid ((S10.out.below hb11).below hba)
                    have CB := Lib.hid ((CA.out.below hb11).below hba)
                    have CC := Lib.hid (hr11.below hba)
                    clear p0 p1 p2 hb11 hba KD S10 CA hr11
                    go_upto_region 25 with fail
                    generalize hZC : w11.alloc (.cells #[.int .i64 (pn : Int), .int .i64 (pg : Int), .slice a2 pl.length c2] 36) = Z at *
                    clear hZC
                    have KS := Lib.hid (sm_own (pn : Int) (pg : Int) a2 a pl c2 c Z hsm.out CC.out CB.out)
                    clear hsm
                    go_wp2_with fail
                    refine KS.out.mono ?_
                    rintro x w12 ⟨rfl, hb12⟩
                    have HEC := Lib.hid (B1.out.trans ((S11.out.below hb12).s.bw.mono B1.out.size))
                    clear KS CB CC S11 hb12 d0 d1 d2 f0 f1 f2
                    go_wp2
                    go_ret
                    exact ⟨rfl, HEC.out⟩
                  · have hpk2 : ¬ (pn : Int) = (k : Int) := by omega
                    have KG := Lib.hid (t_bad S9.out k HK.out hh7 (pgAt_other hhs (by rw [← HBL.out]; exact HHb.out) hrd hpk))
                    have KD := Lib.hid (rd_some hrd)
                    clear hh7 hrd hpk
                    go_wp2_with fail
                    refine KG.out.mono ?_
                    rintro x w10 ⟨rfl, hb10⟩
                    have hba := (Below.refl w10.heap.size w10).alloc (Nat.le_refl _) (.cells #[.int .i64 0, .int .i64 0, .slice none 0 0] 36)
                    have S10 := Lib.hid ((S9.out.below hb10).below hba)
                    clear hb10 hba KG S9
                    go_upto_region 24 with fail
                    generalize hYD : w10.alloc (.cells #[.int .i64 0, .int .i64 0, .slice none 0 0] 36) = Y at *
                    clear hYD
                    go_wp2_with fail
                    refine (KD.out Y).mono ?_
                    rintro x w11 ⟨a, c, rfl, _, hb11⟩
                    have hba := (Below.refl w11.heap.size w11).alloc (Nat.le_refl _) (.cells #[.int .i64 (pn : Int), .int .i64 (pg : Int), .slice a pl.length c] 36)
                    have HED := Lib.hid (B1.out.trans (((S10.out.below hb11).below hba).s.bw.mono B1.out.size))
                    have d0 : (w11.alloc (.cells #[.int .i64 (pn : Int), .int .i64 (pg : Int), .slice a pl.length c] 36)).cell? ⟨w11.heap.size, 0, none⟩ = some (.int .i64 (pn : Int)) := Dv.new_cell rfl rfl
                    have d1 : (w11.alloc (.cells #[.int .i64 (pn : Int), .int .i64 (pg : Int), .slice a pl.length c] 36)).cell? ⟨w11.heap.size, 1, none⟩ = some (.int .i64 (pg : Int)) := Dv.new_cell rfl rfl
                    have d2 : (w11.alloc (.cells #[.int .i64 (pn : Int), .int .i64 (pg : Int), .slice a pl.length c] 36)).cell? ⟨w11.heap.size, 2, none⟩ = some (.slice a pl.length c) := Dv.new_cell rfl rfl
                    clear hb11 hba KD S10
                    go_upto_region 25 with fail
                    generalize hZD : w11.alloc (.cells #[.int .i64 (pn : Int), .int .i64 (pg : Int), .slice a pl.length c] 36) = Z at *
                    clear hZD
                    go_wp2
                    go_ret
                    exact ⟨rfl, HED.out⟩
          · exact (hbad (.inr (.inr (.inr (.inr ⟨pn, pg, pl, hrd, hpn⟩))))).elim
end Go.Proofs.YtcdnkmjjedbbpaaGreatDoor
