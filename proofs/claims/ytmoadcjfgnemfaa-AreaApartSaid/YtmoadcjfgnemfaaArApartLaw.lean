/-
  THE WALK OF quadrigalaw06.AreaApart: it returns true, and writes nothing that was there.
-/
import Derived.Test.YtmoadcjfgnemfaaArActs
import Derived.Deep.Cut
namespace Go.Proofs.Ytmoadcjfgnemfaa
open Go.RowKit
/-- Two areas of one device, the first one's bytes G. -/
structure ApA (w W : World) (Ar Ab D P L M y c : Nat) (u lf : Int) (kd : Nat) (las : List (List UInt8)) (f : Int → Option (List UInt8)) (G : List UInt8) : Prop where
  d : DevAt W D P L M 12 kd false u false lf las f
  a : ArAt W Ar D 1 2
  b : ArAt W Ab D 3 (1 + y)
  u : 0 ≤ u ∧ u ≤ (c : Int)
  k : kd ≤ c
  fo : okf 12 f
  g : getL las f 1 2 128 0 128 = G
  bw : Below w.heap.size w W
  lo : w.heap.size ≤ P ∧ w.heap.size ≤ L ∧ w.heap.size ≤ M
  na : Ar ≠ P ∧ Ar ≠ L ∧ Ar ≠ M
  nb : Ab ≠ P ∧ Ab ≠ L ∧ Ab ≠ M
  y7 : y ≤ 7
section
variable {w W : World} {Ar Ab D P L M y c : Nat} {u lf : Int} {kd : Nat} {las : List (List UInt8)} {f : Int → Option (List UInt8)} {G : List UInt8}
theorem ApA.below {W' : World} (h : ApA w W Ar Ab D P L M y c u lf kd las f G) (hb : Below W.heap.size W W') : ApA w W' Ar Ab D P L M y c u lf kd las f G :=
  { h with d := h.d.below hb, a := h.a.below hb, b := h.b.below hb, bw := h.bw.trans (hb.mono h.bw.size) }
theorem ApA.mono {c' : Nat} (h : ApA w W Ar Ab D P L M y c u lf kd las f G) (hc : c ≤ c') : ApA w W Ar Ab D P L M y c' u lf kd las f G :=
  { h with u := ⟨h.u.1, by have := h.u.2; omega⟩, k := Nat.le_trans h.k hc }
theorem b_set (h : ApA w W Ar Ab D P L M y c u lf kd las f G) (hc : c ≤ 500000) (x : Aa) (hx : AaOk w x) (h6 : x.dl.length ≤ 6) (h2 : (joined x.dl).length ≤ 2000) :
    Calls Try.prog 35 #[.pointer (some ⟨Ab, 0, none⟩), .int .i64 x.n, .slice x.da x.dl.length x.dc] W fun e w' => (∃ r, e = .returned (.int .i64 r)) ∧ Hid (∃ (u' : Int) (kd' : Nat) (f' : Int → Option (List UInt8)), ApA w w' Ar Ab D P L M y (c + 2000) u' lf kd' las f' G) := by
  have hu := h.u
  have hk := h.k
  have hy := h.y7
  by_cases hh : (0 ≤ x.n ∧ x.n ≤ 4611686018427387904) ∧ ((joined x.dl).length : Int) ≤ ((64 * (1 + y) : Nat) : Int)
  · obtain ⟨⟨h0, h1⟩, h3⟩ := hh
    obtain ⟨q, hq⟩ := Int.eq_ofNat_of_zero_le h0
    rw [hq]
    refine (set_yes h.d h.b h.nb h.fo ⟨by omega, by omega⟩ ⟨hu.1, by omega⟩ (by omega) q (by omega) x.da x.dl x.dc (by omega) hx.dcp (hx.ds.below h.bw) hx.dz (by omega) (by omega)).mono ?_
    rintro e w' ⟨rfl, m, hm, hd, hf, ho⟩
    obtain ⟨p1, p2, p3⟩ := h.lo
    refine ⟨⟨_, rfl⟩, _, _, _, { h with d := hd.out, a := h.a.fr hf.out h.na.1 h.na.2.1 h.na.2.2, b := h.b.fr hf.out h.nb.1 h.nb.2.1 h.nb.2.2, u := ⟨by omega, by omega⟩, k := by omega, fo := ho.out, g := ?_, bw := h.bw.trans (hf.out.below h.bw.size p1 p2 p3) }⟩
    rw [← h.g]
    exact getL_congr (by omega) (fun q _ hq2 => by
      unfold secAt
      rw [setF_out (by omega) q (.inl (by omega))]) _ _ _
  · refine (set_no h.b x.n x.da x.dl x.dc (by omega) (hx.ds.below h.bw) hx.dz hh).mono ?_
    rintro e w' ⟨rfl, hb⟩
    exact ⟨⟨_, rfl⟩, _, _, _, (h.below hb).mono (by omega)⟩
theorem a_get (h : ApA w W Ar Ab D P L M y c u lf kd las f G) :
    Calls Try.prog 36 #[.pointer (some ⟨Ar, 0, none⟩), .int .i64 0, .int .i64 128] W fun e w' => e = .returned (.tuple #[.string (txt G), .int .i64 0]) ∧ Hid (ApA w w' Ar Ab D P L M y c u lf kd las f G) := by
  refine (get_any h.d h.a (fun z l hz => (h.fo z l hz).2.2) ⟨by omega, by omega⟩ 0 128 (by omega) (by omega)).mono ?_
  rintro e w' ⟨rfl, hb⟩
  rw [h.g]
  exact ⟨rfl, h.below hb⟩
end
set_option maxRecDepth 100000 in
set_option maxHeartbeats 4000000 in
theorem areaApart_walk (x : Int) (hx : (Lit.int .u8 x).wf = true) (first : ByteArray) (a : Option Addr) (A : List Aa) (cap : Nat) (w : World) (hn : A.length ≤ maxLen) (ha : AasAt w a A) :
    Calls Try.prog 7 #[.int .u8 x, .string first, .slice a A.length cap] w fun e w' => e = .returned (.bool true) ∧ Below w.heap.size w w' := by
  have KG := Lib.hid (great6_any a A cap w hn ha)
  have HA := Lib.hid ha; clear ha
  have KA := Lib.hid (awake6_any w)
  unfold maxLen at hn
  cases hg : great6B A with
  | true =>
    rw [hg] at KG
    go_enter Try.func7, Try.ntmps7
    go_wp2_with fail
    refine KG.out.mono ?_
    rintro e w1 ⟨rfl, rfl⟩
    go_wp2_with fail
    refine KA.out.mono ?_
    rintro e w1 ⟨rfl, hb⟩
    go_wp2
    go_ret
    exact ⟨rfl, hb⟩
  | false =>
    obtain ⟨h30, h10⟩ := great6B_no hg
    have H10 := Lib.hid h10; clear h10
    rw [hg] at KG
    clear hg
    by_cases h128 : 128 < first.size
    · have h128 : (128 : Int) < (first.size : Int) := by omega
      go_enter Try.func7, Try.ntmps7
      go_wp2_with fail
      refine KG.out.mono ?_
      rintro e w1 ⟨rfl, rfl⟩
      go_wp2_with fail
      refine KA.out.mono ?_
      rintro e w1 ⟨rfl, hb⟩
      go_wp2
      go_ret
      exact ⟨rfl, hb⟩
    · have h128' : (first.size : Int) ≤ 128 := by omega
      have hx2 : 0 ≤ x ∧ x ≤ 255 := by
        simp [Lit.wf, IntKind.min, IntKind.max, IntKind.signed, IntKind.bits] at hx
        omega
      clear hx
      obtain ⟨q, rfl⟩ := Int.eq_ofNat_of_zero_le hx2.1
      have hq : q ≤ 255 := by omega
      obtain ⟨y, hy⟩ : ∃ y, y = q % 8 := ⟨_, rfl⟩
      have hy7 : y ≤ 7 := by omega
      have hm8 : Int.tmod (q : Int) 8 = (y : Int) := by rw [Int.tmod_eq_emod_of_nonneg (by omega)]; omega
      clear hx2 hy
      go_enter Try.func7, Try.ntmps7
      go_wp2_with fail
      refine KG.out.mono ?_
      rintro e w1 ⟨rfl, rfl⟩
      go_wp2_with fail
      refine KA.out.mono ?_
      rintro e w1 ⟨rfl, hb⟩
      have HB1 := Lib.hid hb; clear hb KG KA
      have KN := Lib.hid (new_dev 12 w1 (by omega) (by omega))
      have hs1 := HB1.out.size
      go_wp2_with fail
      refine KN.out.mono ?_
      rintro e w2 ⟨D, P, L, M, rfl, hd, hb, p1, p2, p3⟩
      clear KN
      obtain ⟨l1, l2, l3⟩ := hd.out.lts
      have l4 : M < w2.heap.size := by
        obtain ⟨_, hM, _⟩ := hd.out.mp
        exact hM.lt
      have HB2 := Lib.hid (HB1.out.trans (hb.out.mono hs1))
      have hs2 := HB2.out.size
      have KN1 := Lib.hid (anew_any (first := 1) (count := 2) hd.out (by omega) ⟨by omega, by omega⟩)
      clear hb HB1
      go_wp2_with fail
      refine KN1.out.mono ?_
      rintro e w3 ⟨rfl, ha, hb, hsz⟩
      clear KN1
      have hlt3 : w2.heap.size < w3.heap.size := by omega
      clear hsz
      have HB3 := Lib.hid (HB2.out.trans (hb.out.mono hs2))
      have hs3 := HB3.out.size
      have hd3 := Lib.hid (hd.out.below hb.out)
      have KN2 := Lib.hid (anew_any (first := 3) (count := 1 + y) hd3.out (by omega) ⟨by omega, by omega⟩)
      have e1 : ((1 + y : Nat) : Int) = 1 + (y : Int) := by omega
      rw [e1] at KN2
      clear e1 hb HB2 hd
      generalize w2.heap.size = Ar at *
      go_wp2_with fail
      refine KN2.out.mono ?_
      rintro e w4 ⟨rfl, hab, hb, hsz⟩
      clear KN2 hsz
      have HB4 := Lib.hid (HB3.out.trans (hb.out.mono hs3))
      have hs4 := HB4.out.size
      have hd4 := Lib.hid (hd3.out.below hb.out)
      have ha4 := Lib.hid (ha.out.below hb.out)
      clear hb HB3 hd3 ha
      generalize w3.heap.size = Ab at *
      have hbs : Below w4.heap.size w4 (w4.alloc (.cells #[.string first] 9)) := (Below.refl _ _).alloc (Nat.le_refl _) _
      have hj1 : (joined [first]).length = first.size := by rw [join1, ba_len]
      have KS := Lib.hid (set_yes (hd4.out.below hbs) (ha4.out.below hbs) ⟨by omega, by omega, by omega⟩ (f := fun _ => none) (fun _ _ h => by cases h) ⟨by omega, by omega⟩ ⟨by omega, by omega⟩ (by omega) q (by omega) (some ⟨w4.heap.size, 0, none⟩) [first] 1 (by simp) (by simp) (one_str w4 first 9) (fun s hs => by
        simp at hs; subst hs; omega) (by rw [hj1]; omega) (by rw [hj1]; omega))
      have ha5 := Lib.hid (ha4.out.below hbs)
      have hab5 := Lib.hid (hab.out.below hbs)
      have HB5 := Lib.hid (HB4.out.trans (hbs.mono hs4))
      obtain ⟨F, hF⟩ : ∃ F, F = setF (List.replicate 12 blank64) 1 2 (joined [first]).length q (joined [first]) (fun _ => none) := ⟨_, rfl⟩
      rw [← hF] at KS
      rw [hj1] at KS
      clear hF hj1 hbs hd4 ha4 hab HB4
      go_wp2_with fail
      refine KS.out.mono ?_
      rintro e w5 ⟨rfl, m, hm, hd, hf, ho⟩
      clear KS
      have T0 : Hid (ApA w w5 Ar Ab D P L M y 128 (0 + (m : Int)) 0 (0 + m) (List.replicate 12 blank64) F (getL (List.replicate 12 blank64) F 1 2 128 0 128)) :=
        ⟨hd.out, ha5.out.fr hf.out (by omega) (by omega) (by omega), hab5.out.fr hf.out (by omega) (by omega) (by omega), ⟨by omega, by omega⟩, by omega, ho.out, rfl, HB5.out.trans (hf.out.below HB5.out.size (by omega) (by omega) (by omega)), ⟨by omega, by omega, by omega⟩, ⟨by omega, by omega, by omega⟩, ⟨by omega, by omega, by omega⟩, hy7⟩
      clear hd hf ho ha5 hab5 HB5 hs4 hs3 hs2 hs1 l1 l2 l3 l4 p1 p2 p3 hlt3
      generalize getL (List.replicate 12 blank64) F 1 2 128 0 128 = G at *
      generalize 0 + (m : Int) = u0 at *
      generalize 0 + m = k0 at *
      generalize List.replicate 12 blank64 = las at *
      have KG := Lib.hid (a_get T0.out)
      obtain ⟨t1, ht1⟩ : ∃ t, t = txt G := ⟨_, rfl⟩
      have HT1 := Lib.hid ht1
      rw [← ht1] at KG
      clear T0 hm ht1
      go_wp2_with fail
      refine KG.out.mono ?_
      rintro e w6 ⟨rfl, T1⟩
      clear KG
      go_wp2
      go_loopw [13] (fun i wr => ∃ (k : Nat) (u : Int) (kd : Nat) (f : Int → Option (List UInt8)), k ≤ A.length ∧ i = .int .i64 k ∧ Hid (ApA w wr Ar Ab D P L M y (128 + 2000 * k) u 0 kd las f G)) (fun i _ => A.length - (intOf i).toNat)
      case atStart => exact ⟨0, u0, k0, F, by omega, rfl, T1⟩
      case round =>
        obtain ⟨k, u, kd, f, hk, rfl, st⟩ := hrel
        rename World => wb
        clear T1
        by_cases hlt : k < A.length
        · have hk0 : (0 : Int) ≤ (k : Int) := by omega
          have hk1 : (k : Int) < (A.length : Int) := by omega
          obtain ⟨b, off, rfl, hcells, _⟩ := (HA.out.below st.out.bw).at hlt
          have hok := HA.out.1 _ (mem_getA hlt)
          have h61 := H10.out _ (mem_getA hlt)
          generalize A.getD k noAa = z at hcells hok h61
          obtain ⟨h6, h2000, h40⟩ := h61
          have K0 := Lib.hid (b_set (st.out.below ((Below.refl _ _).drew)) (by omega) z hok h6 h2000)
          obtain ⟨c0, c1, c2, c3, c4⟩ := hcells
          clear hok h6 h2000 h40
          generalize z.k = zk at *
          generalize z.n = zn at *
          generalize z.da = da at *
          generalize z.dl.length = dn at *
          generalize z.dc = dc at *
          by_cases e0 : zk = 0
          · subst e0
            clear st
            go_wp2_with fail
            go_still_tail 11, (by kernel_rfl)
            change wpList _ _ _ _ _ wb.drew
            go_wp2_with fail
            refine K0.out.mono ?_
            rintro e w7 ⟨⟨r, rfl⟩, g⟩
            obtain ⟨u2, kd2, f2, T2⟩ := g.out
            have KG := Lib.hid (a_get T2)
            rw [← HT1.out] at KG
            clear K0 g T2 c0 c1 c2 c3 c4
            go_wp2_with fail
            refine KG.out.mono ?_
            rintro e w8 ⟨rfl, T3⟩
            clear KG
            go_wp2
            go_roundw
            case rel => exact ⟨k + 1, u2, kd2, f2, by omega, by go_num, T3.out.mono (by omega)⟩
            case measure => simp [intOf]; omega
          · have e0 : (zk == 0) = false := by rw [beq_eq_false_iff_ne]; exact e0
            have KG := Lib.hid (a_get st.out)
            rw [← HT1.out] at KG
            clear K0 st
            go_wp2_with fail
            refine KG.out.mono ?_
            rintro e w8 ⟨rfl, T3⟩
            clear KG
            go_wp2
            go_roundw
            case rel => exact ⟨k + 1, u, kd, f, by omega, by go_num, T3.out.mono (by omega)⟩
            case measure => simp [intOf]; omega
        · have hk1 : (A.length : Int) ≤ (k : Int) := by omega
          go_wp2
          go_ret
          exact ⟨rfl, st.out.bw⟩
end Go.Proofs.Ytmoadcjfgnemfaa
