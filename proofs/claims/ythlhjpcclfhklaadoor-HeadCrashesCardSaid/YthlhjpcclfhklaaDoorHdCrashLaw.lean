/-
  HeadCrashes: the walk.
-/
import Derived.Test.YthlhjpcclfhklaaDoorHdCrash
namespace Go.Proofs.YthlhjpcclfhklaaDoor
open Go.RowKit
/-- What stays while the heads are saved. -/
structure CrW (w W : World) (D P L M N : Nat) (now : Hd5) : Prop where
  n : H5 W N now.1 now.2.1 now.2.2.1 now.2.2.2.1 now.2.2.2.2
  bw : Below w.heap.size w W
  lo : w.heap.size ≤ P ∧ w.heap.size ≤ L ∧ w.heap.size ≤ M ∧ w.heap.size ≤ N
  ne : N ≠ D ∧ N ≠ P ∧ N ≠ L ∧ N ≠ M
theorem H5.fr3 {P L M : Nat} {W X : World} {Q : Nat} {s e c st m : Int} (h : H5 W Q s e c st m) (g : Dv.Fr3 P L M W X) (hn : Q ≠ P ∧ Q ≠ L ∧ Q ≠ M) : H5 X Q s e c st m := by
  obtain ⟨h1, h2, h3⟩ := hn
  have kq : ∀ {i v}, W.cell? ⟨Q, i, none⟩ = some v → X.cell? ⟨Q, i, none⟩ = some v := fun hc => g.cell hc h1 h2 h3
  exact ⟨⟨kq h.h.c0, kq h.h.c1, kq h.h.c2, kq h.h.c3, kq h.h.c4⟩, fun i => (World.frozen?_of_block (a := ⟨Q, i, none⟩) (g.block Q (blk_of h.h.c0) h1 h2 h3)).trans (h.hf i)⟩
section
variable {w W X : World} {D P L M N : Nat} {now : Hd5}
theorem CrW.below (h : CrW w W D P L M N now) (hb : Below W.heap.size W X) : CrW w X D P L M N now := ⟨h.n.below hb, h.bw.trans (hb.mono h.bw.size), h.lo, h.ne⟩
theorem CrW.fr3 (h : CrW w W D P L M N now) (hf : Dv.Fr3 P L M W X) : CrW w X D P L M N now :=
  ⟨h.n.fr3 hf h.ne.2, h.bw.trans (hf.below h.bw.size h.lo.1 h.lo.2.1 h.lo.2.2.1), h.lo, h.ne⟩
theorem Live.up {left : Int} {b : Nat} (h : Live W D P L M left b now) : Live W D P L M left (b + 1) now := by
  obtain ⟨kk, uses, las, hd, hk, hu, hp⟩ := h
  exact ⟨kk, uses, las, hd, by omega, by omega, hp⟩
theorem Live.pos {left : Int} {b : Nat} (h : Live W D P L M left b now) : 1 ≤ now.1 := by
  obtain ⟨kk, uses, las, hd, hk, hu, hp⟩ := h
  exact hp.pos
theorem live_set {left : Int} {b : Nat} {q : Hd5} (h : Live W D P L M left b q) (hn : N ≠ D ∧ N ≠ P ∧ N ≠ L ∧ N ≠ M) (i : Nat) (v : Value) : Live (W.setCell ⟨N, i, none⟩ v) D P L M left b q := by
  obtain ⟨kk, uses, las, hd, hk⟩ := h
  have hg := Dv.setCell_grown W N i v
  obtain ⟨l1, l2, l3⟩ := dev_lts hd
  have l0 := dev_D hd
  exact ⟨kk, uses, las, hd.blocks (hg.block D l0 (by simp; omega)) (hg.block P l1 (by simp; omega)) (hg.block L l2 (by simp; omega)) (hg.block M l3 (by simp; omega)), hk⟩
theorem CrW.put (h : CrW w W D P L M N now) (s e c st m : Int) :
    CrW w (((((W.setCell ⟨N, 0, none⟩ (.int .i64 s)).setCell ⟨N, 1, none⟩ (.int .i64 e)).setCell ⟨N, 2, none⟩ (.int .i64 c)).setCell ⟨N, 3, none⟩ (.int .i64 st)).setCell ⟨N, 4, none⟩ (.int .i64 m)) D P L M N (s, e, c, st, m) := by
  have hR := h.lo.2.2.2
  refine ⟨⟨set5_cells h.n.h, fun i => ?_⟩, ((((h.bw.setCell hR _).setCell hR _).setCell hR _).setCell hR _).setCell hR _, h.lo, h.ne⟩
  simp only [World.frozen?_setCell]; exact h.n.hf i
theorem live_put {left : Int} {b : Nat} {q : Hd5} (h : Live W D P L M left b q) (hn : N ≠ D ∧ N ≠ P ∧ N ≠ L ∧ N ≠ M) (v0 v1 v2 v3 v4 : Value) :
    Live (((((W.setCell ⟨N, 0, none⟩ v0).setCell ⟨N, 1, none⟩ v1).setCell ⟨N, 2, none⟩ v2).setCell ⟨N, 3, none⟩ v3).setCell ⟨N, 4, none⟩ v4) D P L M left b q :=
  live_set (live_set (live_set (live_set (live_set h hn 0 v0) hn 1 v1) hn 2 v2) hn 3 v3) hn 4 v4
theorem Dev1.lts (h : Dev1 W D P L M) : D < W.heap.size ∧ P < W.heap.size ∧ L < W.heap.size ∧ M < W.heap.size := by
  obtain ⟨las, hd, _⟩ := h
  exact ⟨dev_D hd, dev_lts hd⟩
theorem crW_new {w3 w4 w5 : World} (hb : Below w.heap.size w w3) (hb4 : Below w3.heap.size w3 w4) (hd : Dev1 w5 D P L M) (hs : w3.heap.size ≤ P ∧ w3.heap.size ≤ L ∧ w3.heap.size ≤ M) (hf : Dv.Fr3 P L M w4 w5) (T : TypeId) :
    CrW w (w5.alloc (.cells #[.int .i64 1, .int .i64 0, .int .i64 0, .int .i64 0, .int .i64 0] T)) D P L M w5.heap.size (1, 0, 0, 0, 0) := by
  obtain ⟨l0, l1, l2, l3⟩ := hd.lts
  have hz := hb.size
  have b4 : Below w.heap.size w w4 := hb.trans (hb4.mono hz)
  have b5 : Below w.heap.size w w5 := b4.trans (hf.below b4.size (by omega) (by omega) (by omega))
  have ha : Below w5.heap.size w5 (w5.alloc (.cells #[.int .i64 1, .int .i64 0, .int .i64 0, .int .i64 0, .int .i64 0] T)) := (Below.refl _ _).alloc (Nat.le_refl _) _
  exact ⟨⟨C5.new _ _ _ _ _ _ T, fun _ => World.frozen?_alloc_at _ _ _ _ rfl⟩, b5.trans (ha.mono b5.size), ⟨by omega, by omega, by omega, b5.size⟩, ⟨by omega, by omega, by omega, by omega⟩⟩
theorem ints_in {ka : Option Addr} {ks : List Int} (h : IntsAt w ka ks) (hc : CrW w W D P L M N now) : Dv.IntsIn W ka L ks := by
  rcases h with rfl | ⟨b, off, e, h⟩
  · exact .inl rfl
  · by_cases h0 : ks.length = 0
    · exact .inl (List.length_eq_zero_iff.1 h0)
    · have hlt := blk_of (h 0 (by omega))
      refine .inr ⟨b, off, e, ?_, fun i hi => (hc.bw.cell (p := ⟨b, off + i, none⟩) hlt).trans (h i hi)⟩
      exact fun e2 => absurd (Nat.lt_of_lt_of_le hlt hc.lo.2.1) (by rw [e2]; exact Nat.lt_irrefl _)
end
theorem ok_next {s e c st m : Int} (hs : 1 ≤ s ∧ s ≤ 1000) (h : hdOk s e c st m = true) : hdOk (s + 1) e c st m = true := by
  rw [hdOk_sm (by omega)] at h ⊢
  exact h
set_option maxRecDepth 100000 in
set_option maxHeartbeats 8000000 in
theorem headCrashes_walk (la : Option Addr) (l : List Hd5) (lc : Nat) (arm : Int) (ka : Option Addr) (ks : List Int) (kc : Nat) (w : World) (hl : l.length ≤ maxLen) (hA : HdsAt w la l) (ha : 0 ≤ arm ∧ arm ≤ 255) (hk : ks.length ≤ maxLen)
    (hw : ∀ z ∈ ks, (Lit.int .i64 z).wf = true) (hK : IntsAt w ka ks) (ht : Tab w) :
    Calls Tryd.prog 3 #[.slice la l.length lc, .int .u8 arm, .slice ka ks.length kc] w fun x w' => x = .returned (.bool true) ∧ Below w.heap.size w w' := by
  have KA := Lib.hid awake7_any
  have HT := Lib.hid ht
  unfold maxLen at hl hk
  by_cases hl20 : l.length ≤ 20
  · by_cases hk40 : ks.length ≤ 40
    · have l1 : (l.length : Int) ≤ 20 := by omega
      have k1 : (ks.length : Int) ≤ 40 := by omega
      have KN := Lib.hid (fun W => Dv.new_any 2 W (by omega) (by omega))
      have KS := Lib.hid (fun W D P L M (h : Dv.DevAt W D P L M 2 0 false 0 false 0 (List.replicate 2 Dv.blank64) (fun _ => none)) hT => awake_save h hT)
      have hj : 0 ≤ arm.tmod 30 ∧ arm.tmod 30 < 30 := by rw [Int.tmod_eq_emod_of_nonneg ha.1]; omega
      have hj2 : arm.tmod 30 = arm % 30 := Int.tmod_eq_emod_of_nonneg ha.1
      have KB := Lib.hid (fun W D P L M (h : Dev1 W D P L M) => c_arm h (arm % 30) (by omega))
      clear ht
      go_enter Tryd.func3, Tryd.ntmps3
      go_wp2_with fail
      refine (KA.out _ HT.out).mono ?_
      rintro x w3 ⟨rfl, hb3⟩
      have B3 := Lib.hid hb3
      clear hb3 KA
      go_wp2_with fail
      refine (KN.out _).mono ?_
      rintro x w4 ⟨rfl, hd, hb4⟩
      have D4 := Lib.hid hd
      have B4 := Lib.hid hb4
      clear hd hb4 KN
      go_wp2_with fail
      refine (KS.out _ _ _ _ _ D4.out ((HT.out.below B3.out).below B4.out)).mono ?_
      rintro x w5 ⟨rfl, hd5, hf5⟩
      have C6 := Lib.hid (crW_new B3.out B4.out hd5 ⟨by omega, by omega, by omega⟩ hf5 28)
      have D6 := Lib.hid (hd5.below ((Below.refl w5.heap.size w5).alloc (Nat.le_refl _) (.cells #[.int .i64 1, .int .i64 0, .int .i64 0, .int .i64 0, .int .i64 0] 28)))
      clear hd5 hf5 D4 B4 B3 KS
      go_upto_region 5 with fail
      generalize w5.alloc (.cells #[.int .i64 1, .int .i64 0, .int .i64 0, .int .i64 0, .int .i64 0] 28) = W6 at *
      generalize w5.heap.size = N at *
      generalize w3.heap.size + 1 + 1 + 1 = D at *
      generalize w3.heap.size + 1 + 1 = M at *
      generalize w3.heap.size + 1 = L at *
      generalize w3.heap.size = P at *
      go_wp2_with fail
      refine (KB.out _ _ _ _ _ D6.out).mono ?_
      rintro x w7 ⟨rfl, hd7, hf7⟩
      have V7 : Hid (Live w7 D P L M (arm % 30) (0 + 1) (1, 0, 0, 0, 0)) := hd7
      have C7 := Lib.hid (C6.out.fr3 hf7)
      have KL := Lib.hid (fun W now q (h : Up W D P L M now q) hT => c_load h hT)
      clear hd7 hf7 C6 D6 KB
      have hj0 : 0 ≤ arm % 30 ∧ arm % 30 ≤ 30 := by omega
      clear hj hj2
      generalize arm % 30 = J at *
      go_wp2
      go_loopw [10] (fun iv wr => ∃ (k : Nat) (now : Hd5) (left : Int), k ≤ l.length ∧ iv = .int .i64 k ∧ (0 ≤ left ∧ left ≤ 30) ∧ now.1 ≤ k + 1 ∧ Hid (Live wr D P L M left (k + 1) now) ∧ Hid (CrW w wr D P L M N now)) (fun iv _ => l.length - (intOf iv).toNat)
      case atStart => exact ⟨0, (1, 0, 0, 0, 0), J, Nat.zero_le _, rfl, hj0, by show (1 : Int) ≤ 0 + 1; omega, V7, C7⟩
      case round =>
        obtain ⟨k, now, left, hkl, rfl, hlf, hnow, HV, HC⟩ := hrel
        rename World => wa
        clear V7 C7 hj0
        have hcell : k < l.length → ∃ b off, la = some ⟨b, off, none⟩ ∧ wa.cell? ⟨b, off + k * 5 + 0, none⟩ = some (.int .i64 (l.getD k noHd).1) ∧ wa.cell? ⟨b, off + k * 5 + 1, none⟩ = some (.int .i64 (l.getD k noHd).2.1) ∧ wa.cell? ⟨b, off + k * 5 + 2, none⟩ = some (.int .i64 (l.getD k noHd).2.2.1) ∧
            wa.cell? ⟨b, off + k * 5 + 3, none⟩ = some (.int .i64 (l.getD k noHd).2.2.2.1) ∧ wa.cell? ⟨b, off + k * 5 + 4, none⟩ = some (.int .i64 (l.getD k noHd).2.2.2.2) := fun hlt => by
          rcases hA.below HC.out.bw with rfl | ⟨b, off, e, h⟩
          · simp at hlt
          · exact ⟨b, off, e, h k hlt⟩
        by_cases hlt : k < l.length
        · obtain ⟨b, off, rfl, e0, e1, e2, e3, e4⟩ := hcell hlt
          clear hcell
          have hk0 : (k : Int) < (l.length : Int) := by omega
          obtain ⟨⟨n0, n1, n2, n3, n4⟩, nf⟩ := HC.out.n
          generalize l.getD k noHd = q at *
          obtain ⟨s0, e', c', t', m'⟩ := q
          simp only at e0 e1 e2 e3 e4
          rw [Nat.add_zero] at e0
          have N0 := Dv.keep_alloc (o := .cells #[.int .i64 s0, .int .i64 e', .int .i64 c', .int .i64 t', .int .i64 m'] 28) n0
          have hpos := HV.out.pos
          have hQn : (wa.heap.size ≠ P ∧ wa.heap.size ≠ L ∧ wa.heap.size ≠ M) ∧ wa.heap.size ≠ N ∧ w.heap.size ≤ wa.heap.size := by
            obtain ⟨kk, uses, las, hd, _⟩ := HV.out
            obtain ⟨l1, l2, l3⟩ := dev_lts hd
            have hN : N < wa.heap.size := blk_of n0
            exact ⟨⟨by omega, by omega, by omega⟩, by omega, HC.out.bw.size⟩
          have HQN := Lib.hid hQn
          clear hQn
          have KR := Lib.hid (fun W => refRight7_any now.1 e' c' t' m' (by omega) W)
          have HQ := Lib.hid (C5.new wa (.int .i64 now.1) (.int .i64 e') (.int .i64 c') (.int .i64 t') (.int .i64 m') 28)
          have hby := (Below.refl wa.heap.size wa).alloc (Nat.le_refl _) (.cells #[.int .i64 now.1, .int .i64 e', .int .i64 c', .int .i64 t', .int .i64 m'] 28)
          have HV1 := Lib.hid (HV.out.below hby)
          have HC1 := Lib.hid (HC.out.below hby)
          have HQ1 : Hid (H5 (wa.alloc (.cells #[.int .i64 now.1, .int .i64 e', .int .i64 c', .int .i64 t', .int .i64 m'] 28)) wa.heap.size now.1 e' c' t' m') := ⟨HQ.out, fun _ => World.frozen?_alloc_at _ _ _ _ rfl⟩
          clear hby HQ HV HC
          go_upto_region 13 with fail
          clear e0 e1 e2 e3 e4 N0 n0 n1 n2 n3 n4 nf
          generalize wa.alloc (.cells #[.int .i64 now.1, .int .i64 e', .int .i64 c', .int .i64 t', .int .i64 m'] 28) = Y at *
          generalize wa.heap.size = Q at *
          obtain ⟨⟨q0, q1, q2, q3, q4⟩, _⟩ := HQ1.out
          cases ho : hdOk now.1 e' c' t' m' with
          | false =>
            rw [ho] at KR
            go_wp2_with fail
            refine (KR.out _).mono ?_
            rintro x w8 ⟨rfl, hb8⟩
            have V2 := Lib.hid (HV1.out.below hb8)
            have C2 := Lib.hid (HC1.out.below hb8)
            have Q2 := Lib.hid (HQ1.out.below hb8)
            clear hb8 HV1 HC1 HQ1 KR q0 q1 q2 q3 q4
            go_wp2
            go_roundw
            case rel => exact ⟨k + 1, now, left, by omega, by go_num, hlf, by omega, V2.out.up, C2⟩
            case measure => simp [intOf]; omega
          | true =>
            rw [ho] at KR
            go_wp2_with fail
            refine (KR.out _).mono ?_
            rintro x w8 ⟨rfl, hb8⟩
            have V2 := Lib.hid (HV1.out.below hb8)
            have C2 := Lib.hid (HC1.out.below hb8)
            have Q2 := Lib.hid (HQ1.out.below hb8)
            clear hb8 HV1 HC1 HQ1 KR q0 q1 q2 q3 q4
            have ho2 := ok_next ⟨hpos, by omega⟩ ho
            obtain ⟨⟨q0, q1, q2, q3, q4⟩, _⟩ := Q2.out
            by_cases hl1 : 1 < left
            · have KS := Lib.hid (c_save V2.out (by omega) ⟨hl1, by omega⟩ (HT.out.below C2.out.bw) e' c' t' m' ho ho2)
              clear ho ho2 V2 Q2
              go_wp2_with fail
              refine KS.out.mono ?_
              rintro x w9 ⟨rfl, hv9, hf9⟩
              have hby := (Below.refl w9.heap.size w9).alloc (Nat.le_refl _) (.cells #[.int .i64 (now.1 + 1), .int .i64 e', .int .i64 c', .int .i64 t', .int .i64 m'] 28)
              have V3 := Lib.hid (hv9.below hby)
              have C3 := Lib.hid ((C2.out.fr3 hf9).below hby)
              have X3 := C5.new w9 (.int .i64 (now.1 + 1)) (.int .i64 e') (.int .i64 c') (.int .i64 t') (.int .i64 m') 28
              clear hby hv9 hf9 C2 KS q0 q1 q2 q3 q4
              go_upto_region 15 with fail
              generalize w9.alloc (.cells #[.int .i64 (now.1 + 1), .int .i64 e', .int .i64 c', .int .i64 t', .int .i64 m'] 28) = Y9 at *
              generalize w9.heap.size = R9 at *
              obtain ⟨x0, x1, x2, x3, x4⟩ := X3
              obtain ⟨⟨n0, n1, n2, n3, n4⟩, nf⟩ := C3.out.n
              have HP := Lib.hid (C3.out.put (now.1 + 1) e' c' t' m')
              have VP := Lib.hid (live_put V3.out C3.out.ne (.int .i64 (now.1 + 1)) (.int .i64 e') (.int .i64 c') (.int .i64 t') (.int .i64 m'))
              clear C3 V3
              go_wp2
              go_roundw
              case rel => exact ⟨k + 1, (now.1 + 1, e', c', t', m'), left - 1 - 1, by omega, by go_num, by omega, by show now.1 + 1 ≤ _; omega, VP, HP⟩
              case measure => simp [intOf]; omega
            · have KS := Lib.hid (c_fail V2.out (by omega) (by omega) (HT.out.below C2.out.bw) e' c' t' m' ho ho2)
              clear ho ho2 V2
              go_wp2_with fail
              refine KS.out.mono ?_
              rintro x w9 ⟨rfl, hv9, hf9⟩
              have hby := (Below.refl w9.heap.size w9).alloc (Nat.le_refl _) (.cells #[.int .i64 0, .int .i64 0, .int .i64 0, .int .i64 0, .int .i64 0] 28)
              have F3 := Lib.hid (hv9.below hby)
              have C3 := Lib.hid ((C2.out.fr3 hf9).below hby)
              have Q3 := Lib.hid ((Q2.out.fr3 hf9 HQN.out.1).below hby)
              clear hby hv9 hf9 C2 Q2 KS q0 q1 q2 q3 q4
              go_upto_region 15 with fail
              generalize w9.alloc (.cells #[.int .i64 0, .int .i64 0, .int .i64 0, .int .i64 0, .int .i64 0] 28) = Y9 at *
              generalize w9.heap.size = R9 at *
              have KX := Lib.hid (c_crash F3.out ka ks kc (by omega) hw (ints_in hK C3.out))
              clear F3
              go_wp2_with fail
              refine KX.out.mono ?_
              rintro x w10 ⟨rfl, hu10, hf10⟩
              have U4 := Lib.hid hu10
              have C4 := Lib.hid (C3.out.fr3 hf10)
              have Q4 := Lib.hid (Q3.out.fr3 hf10 HQN.out.1)
              clear hu10 hf10 C3 Q3 KX
              go_wp2_with fail
              refine (KL.out _ _ _ U4.out (HT.out.below C4.out.bw)).mono ?_
              rintro x w11 ⟨g, hg, rfl, hb11⟩
              have hby := (Below.refl w11.heap.size w11).alloc (Nat.le_refl _) (.cells #[.int .i64 g.1, .int .i64 g.2.1, .int .i64 g.2.2.1, .int .i64 g.2.2.2.1, .int .i64 g.2.2.2.2] 28)
              have C5' := Lib.hid ((C4.out.below hb11).below hby)
              have Q5 := Lib.hid ((Q4.out.below hb11).below hby)
              have G5 := Lib.hid (C5.new w11 (.int .i64 g.1) (.int .i64 g.2.1) (.int .i64 g.2.2.1) (.int .i64 g.2.2.2.1) (.int .i64 g.2.2.2.2) 28)
              have hQ11 : Q ≠ w11.heap.size := by
                have := blk_of (Q4.out.below hb11).h.c0
                show Q ≠ _
                have h2 : Q < w11.heap.size := this
                omega
              clear hby hb11 C4 Q4 U4 KL
              go_upto_region 19 with fail
              generalize w11.alloc (.cells #[.int .i64 g.1, .int .i64 g.2.1, .int .i64 g.2.2.1, .int .i64 g.2.2.2.1, .int .i64 g.2.2.2.2] 28) = Y11 at *
              generalize w11.heap.size = R11 at *
              obtain ⟨⟨q0, q1, q2, q3, q4⟩, qf⟩ := Q5.out
              have N6 := Lib.hid (C5'.out.n.h.other (i := 0) (u := .int .i64 (now.1 + 1)) (Ne.symm HQN.out.2.1))
              have G6 := Lib.hid (G5.out.other (i := 0) (u := .int .i64 (now.1 + 1)) (Ne.symm hQ11))
              have q6 : (Y11.setCell ⟨Q, 0, none⟩ (.int .i64 (now.1 + 1))).cell? ⟨Q, 0, none⟩ = some (.int .i64 (now.1 + 1)) := World.cell?_setCell_same _ _ _ q0
              have o6 : ∀ j v, j ≠ 0 → Y11.cell? ⟨Q, j, none⟩ = some v → (Y11.setCell ⟨Q, 0, none⟩ (.int .i64 (now.1 + 1))).cell? ⟨Q, j, none⟩ = some v := fun j v hj hc => by
                rw [World.cell?_setCell_other _ _ _ _ (fun e => by injection e with _ e2; exact hj e2.symm)]; exact hc
              have q7 := o6 1 _ (by decide) q1
              have q8 := o6 2 _ (by decide) q2
              have q9 := o6 3 _ (by decide) q3
              have q10 := o6 4 _ (by decide) q4
              have B6 := Lib.hid (C5'.out.bw.setCell (p := ⟨Q, 0, none⟩) HQN.out.2.2 (.int .i64 (now.1 + 1)))
              clear o6 hQ11 C5' Q5 G5
              go_upto_region 20 with fail
              generalize Y11.setCell ⟨Q, 0, none⟩ (.int .i64 (now.1 + 1)) = Y12 at *
              clear q0 q1 q2 q3 q4 qf
              obtain ⟨n0, n1, n2, n3, n4⟩ := N6.out
              obtain ⟨g0, g1, g2, g3, g4⟩ := G6.out
              have hne : ¬ now.1 + 1 = now.1 := by omega
              rcases hg with rfl | rfl
              · go_wp2
                exact bodyPost_ret (v := .bool true) (by simp [results, Tryd.results3, go_sem]) rfl ⟨rfl, B6.out⟩
              · simp only at g0 g1 g2 g3 g4
                go_wp2
                exact bodyPost_ret (v := .bool true) (by simp [results, Tryd.results3, go_sem]) rfl ⟨rfl, B6.out⟩
        · clear hcell
          have hk0 : (l.length : Int) ≤ (k : Int) := by omega
          have KX := Lib.hid (c_crash HV.out.fell ka ks kc (by omega) hw (ints_in hK HC.out))
          clear HV
          go_wp2_with fail
          refine KX.out.mono ?_
          rintro x w10 ⟨rfl, hu10, hf10⟩
          have U4 := Lib.hid hu10
          have C4 := Lib.hid (HC.out.fr3 hf10)
          clear hu10 hf10 HC KX
          go_wp2_with fail
          refine (KL.out _ _ _ U4.out (HT.out.below C4.out.bw)).mono ?_
          rintro x w11 ⟨g, hg, rfl, hb11⟩
          obtain rfl : g = now := by rcases hg with h | h <;> exact h
          have hby := (Below.refl w11.heap.size w11).alloc (Nat.le_refl _) (.cells #[.int .i64 g.1, .int .i64 g.2.1, .int .i64 g.2.2.1, .int .i64 g.2.2.2.1, .int .i64 g.2.2.2.2] 28)
          have C5' := Lib.hid ((C4.out.below hb11).below hby)
          have G5 := C5.new w11 (.int .i64 g.1) (.int .i64 g.2.1) (.int .i64 g.2.2.1) (.int .i64 g.2.2.2.1) (.int .i64 g.2.2.2.2) 28
          clear hby hb11 C4 U4 KL hg
          go_upto_region 23 with fail
          generalize w11.alloc (.cells #[.int .i64 g.1, .int .i64 g.2.1, .int .i64 g.2.2.1, .int .i64 g.2.2.2.1, .int .i64 g.2.2.2.2] 28) = Y11 at *
          generalize w11.heap.size = R11 at *
          obtain ⟨⟨n0, n1, n2, n3, n4⟩, _⟩ := C5'.out.n
          obtain ⟨g0, g1, g2, g3, g4⟩ := G5
          go_wp2
          exact bodyPost_ret (v := .bool true) (by simp [results, Tryd.results3, go_sem]) rfl ⟨rfl, C5'.out.bw⟩
    · have l1 : (l.length : Int) ≤ 20 := by omega
      have k1 : ¬ (ks.length : Int) ≤ 40 := by omega
      clear ht
      go_enter Tryd.func3, Tryd.ntmps3
      go_wp2_with fail
      refine (KA.out _ HT.out).mono ?_
      rintro x w3 ⟨rfl, hb3⟩
      have B3 := Lib.hid hb3
      clear hb3
      go_wp2
      exact bodyPost_ret (v := .bool true) (by simp [results, Tryd.results3, go_sem]) rfl ⟨rfl, B3.out⟩
  · have l1 : ¬ (l.length : Int) ≤ 20 := by omega
    clear ht
    go_enter Tryd.func3, Tryd.ntmps3
    go_wp2_with fail
    refine (KA.out _ HT.out).mono ?_
    rintro x w3 ⟨rfl, hb3⟩
    have B3 := Lib.hid hb3
    clear hb3
    go_wp2
    exact bodyPost_ret (v := .bool true) (by simp [results, Tryd.results3, go_sem]) rfl ⟨rfl, B3.out⟩
end Go.Proofs.YthlhjpcclfhklaaDoor
