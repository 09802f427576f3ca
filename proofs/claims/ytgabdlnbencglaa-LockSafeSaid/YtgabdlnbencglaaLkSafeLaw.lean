/-
  THE WALK OF law 14's LockSafe.
-/
import Derived.Test.YtgabdlnbencglaaLkSafeP
import Derived.Test.YtgabdlnbencglaaLkAwake
import Derived.Deep.Cut
import Derived.Deep.CutRange
import Derived.Deep.CutBlock
import Derived.Deep.DeepCutAuto
namespace Go.Proofs.Ytgabdlnbencglaa
open Go.RowKit
theorem great_no {l : List La} (h : greatL l = false) : l.length ≤ 60 ∧ ∀ x, x ∈ l → x.key.size ≤ 100 ∧ x.more.length ≤ 10 := by
  unfold greatL at h
  rw [Bool.or_eq_false_iff] at h
  refine ⟨by simpa using h.1, fun x hx => ?_⟩
  have h2 := List.any_eq_false.1 h.2 x hx
  unfold bigLa at h2
  simpa using h2
/-- Behind so many acts: all owners are told. -/
structure SfW (w0 wr : World) (T ml mh mw n : Nat) (s : Lk) (j : Nat) (v : Value) (os : List Int) : Prop where
  a : AcW w0 wr T ml mh mw n s j v
  r : RowI wr w0.heap.size v os
  f0 : os = [] → v = .slice none 0 0
  up : os.Pairwise (· < ·)
  dm : Dm s os
  ln : os.length ≤ j
  wf : ∀ o, o ∈ os → (Lit.int .i64 o).wf = true
theorem SfW.below {w0 wr X : World} {T ml mh mw n : Nat} {s : Lk} {j : Nat} {v : Value} {os : List Int} (h : SfW w0 wr T ml mh mw n s j v os) (hb : Below wr.heap.size wr X) : SfW w0 X T ml mh mw n s j v os :=
  ⟨(h.a.below hb).1, h.r.below hb, h.f0, h.up, h.dm, h.ln, h.wf⟩
theorem rowC_len {W : World} {B : Nat} {v : Value} {l : List Cl} (h : RowCl W B v l) : l.length ≤ maxLen := by
  rcases h.2 with ⟨_, hn⟩ | ⟨g, cap, cur, _, _, _, h1, h2, _⟩
  · rw [hn]; exact Nat.zero_le _
  · exact Nat.le_trans h1 h2
theorem str_ne {a b : ByteArray} (h : a ≠ b) : (a.toList == b.toList) = false := by
  rw [beq_eq_false_iff_ne]
  intro e
  rw [ByteArray.toList_eq, ByteArray.toList_eq] at e
  exact h (ByteArray.ext (Array.toList_inj.1 e))
set_option maxRecDepth 100000 in
set_option maxHeartbeats 16000000 in
theorem lockSafe_walk (la : Option Addr) (l : List La) (lc : Nat) (W : World) (hl : l.length ≤ maxLen) (hm : LasAt W la l) :
    Calls Try.prog 4 #[.slice la l.length lc] W fun e W' => e = .returned (.bool true) ∧ Below W.heap.size W W' := by
  have KG := Lib.hid (great14_any (c := lc) hl hm)
  have KA := Lib.hid (fun W => awake14_any W)
  have KN := Lib.hid (fun W => new_table W)
  have HM := Lib.hid hm
  clear hm
  cases hg : greatL l with
  | true =>
    rw [hg] at KG
    go_enter Try.func4, Try.ntmps4
    go_wp2_with fail
    refine KG.out.mono ?_
    rintro e w1 ⟨rfl, hb1⟩
    have HB1 := Lib.hid hb1
    clear KG KN HM hb1
    go_wp2_with fail
    refine (KA.out _).mono ?_
    rintro e w2 ⟨rfl, hb2⟩
    have HB2 := Lib.hid (HB1.out.trans (hb2.mono HB1.out.size))
    clear hb2 KA
    go_wp2
    go_ret
    exact ⟨rfl, HB2.out⟩
  | false =>
    rw [hg] at KG
    have HGR := Lib.hid (great_no hg)
    clear hg
    go_enter Try.func4, Try.ntmps4
    go_wp2_with fail
    refine KG.out.mono ?_
    rintro e w1 ⟨rfl, hb1⟩
    have HB1 := Lib.hid hb1
    clear KG hb1
    go_wp2_with fail
    refine (KA.out _).mono ?_
    rintro e w0 ⟨rfl, hb2⟩
    have HB0 := Lib.hid (HB1.out.trans (hb2.mono HB1.out.size))
    clear hb2 KA HB1
    go_wp2_with fail
    refine (KN.out _).mono ?_
    rintro e w3 ⟨T, ml, mh, mw, rfl, h3, b3⟩
    have S0 : Hid (SfW w0 w3 T ml mh mw 0 Lk.none 0 (.slice none 0 0) []) := ⟨⟨h3, ac_none, b3, fun g e => by cases e⟩, World.ownsRow_nil _ _ _ _, fun _ => rfl, List.Pairwise.nil, fun _ _ _ _ h => (by cases h), Nat.le_refl _, fun _ h => by cases h⟩
    have hli : (l.length : Int) ≤ 60 := by have := HGR.out.1; omega
    clear KN h3 b3
    go_wp2
    go_loopw [4, 5] (fun vO i wr => ∃ (j n : Nat) (s : Lk) (os : List Int), i = .int .i64 (j : Int) ∧ j ≤ l.length ∧ Hid (SfW w0 wr T ml mh mw n s j vO os)) (fun _ i _ => l.length - (intOf i).toNat)
    case atStart => exact ⟨0, 0, _, [], rfl, Nat.zero_le _, S0⟩
    case round =>
      obtain ⟨j, n, s, os, rfl, hj, sf⟩ := hrel
      rename World => wr
      clear S0
      obtain ⟨aO, cO, hvO, hIO⟩ := sf.out.r.form
      have HIO := Lib.hid hIO
      subst hvO
      have st := Lib.hid sf.out.a
      have DM := Lib.hid sf.out.dm
      have HOL := Lib.hid sf.out.ln
      clear hIO
      by_cases hlt : j < l.length
      · obtain ⟨b3, off3, ha3, m0, m1, m2, m3, m4, mok⟩ := (HM.out.below (HB0.out.trans (st.out.bw.mono HB0.out.size))).cells hlt
        have HMK : Hid (∀ X : World, Below w0.heap.size w0 X → X.cell? ⟨b3, off3 + j * 5 + 1, none⟩ = some (.int .i64 l[j].own)) := fun X hX => by
          obtain ⟨b4, off4, ha4, _, q1, _⟩ := (HM.out.below (HB0.out.trans (hX.mono HB0.out.size))).cells hlt
          rw [ha3] at ha4
          injection ha4 with ha4
          injection ha4 with e1 e2
          rw [e1, e2]; exact q1
        obtain ⟨ow, how0⟩ : ∃ ow, l[j].own = ow := ⟨_, rfl⟩
        rw [how0] at HMK
        have HWO : Hid ((Lit.int .i64 ow).wf = true) := by have := mok.ow; rw [how0] at this; exact this
        subst ha3
        rw [Nat.add_zero] at m0
        clear m1 m2 m3 m4 mok
        go_upto_block 2 with fail
        go_cut [] from 34 to 77 (fun wx => ∃ (n' : Nat) (s' : Lk), Hid (AcW w0 wx T ml mh mw n' s' (j + 1) (Value.slice aO os.length cO)) ∧ Hid (∀ g, (Value.slice aO os.length cO).ownBlock = some g → wx.heap[g]? = wr.heap[g]?) ∧ Hid (Dm s' (putS os ow)))
        case first =>
          obtain ⟨b2, off2, hae, k0, k1, k2, k3, k4, hok⟩ := (HM.out.below (HB0.out.trans (st.out.bw.mono HB0.out.size))).cells hlt
          have HLT := Lib.hid hlt
          have hbig := HGR.out.2 l[j] (List.getElem_mem hlt)
          have hj60 : j ≤ 60 := Nat.le_trans (Nat.le_of_lt hlt) HGR.out.1
          cases hae
          generalize l[j] = x at *
          obtain ⟨kd, hkd⟩ : ∃ kd, x.kind = kd := ⟨_, rfl⟩
          rw [hkd, Nat.add_zero] at k0
          rw [hkd]
          subst how0
          have hbd : Below wr.heap.size wr wr.drew := (Below.refl _ _).drew
          have d1 := keep_cell hbd k1
          have d2 := keep_cell hbd k2
          have d3 := keep_cell hbd k3
          have d4 := keep_cell hbd k4
          have HOK := Lib.hid (hok.below hbd)
          have SD := Lib.hid (st.out.below hbd).1
          have SV := Lib.hid (st.out.below hbd).2
          have how := hok.ow
          clear hok
          by_cases hk0 : kd = 0
          · subst hk0
            have KK := Lib.hid (ask_ac (b := x.wr) SD.out (by omega) hbig.1 how)
            clear hbd hkd how
            go_upto_region 11 with fail
            go_region_law ((go_simp; go_at_call 12; (with_reducible refine KK.out.mono ?_); rintro e w5 ⟨c5, s5, rfl, hr5, ha5, hv5⟩; have S5 := Lib.hid ha5; have V5 : Hid (∀ g, ((Value.slice aO os.length cO)).ownBlock = some g → w5.heap[g]? = wr.heap[g]?) := (fun g e => (hv5 g e).trans (SV.out g e)); have D5 := Lib.hid (DM.out.ask hr5); clear ha5 hr5 hv5; go_simp))
            all_goals clear KK SD SV d1 d2 d3 d4 st HOK
            all_goals
              go_wp2_with fail
              go_meet
              exact ⟨_, _, S5, by first | exact V5 | exact fun _ _ => rfl, D5⟩
          · by_cases hk1 : kd = 1
            · subst hk1
              have KK := Lib.hid (quit_ac st.out (o := x.own) (by omega) how)
              clear hbd hkd how SD SV d1 d2 d3 d4 HOK
              go_wp2_with fail
              refine KK.out.mono ?_
              rintro e w5 (⟨_, rfl, rfl⟩ | ⟨_, _, _, n5, s5, _, rfl, _, _, hp5, _, ha5, hv5⟩)
              · have S5 : Hid (AcW w0 wr T ml mh mw n s (j + 1) (Value.slice aO os.length cO)) := ⟨st.out.t, st.out.a.mono, st.out.bw, st.out.pv⟩
                have V5 : Hid (∀ g, ((Value.slice aO os.length cO)).ownBlock = some g → wr.heap[g]? = wr.heap[g]?) := fun _ _ => rfl
                have D5 := Lib.hid (DM.out.put x.own)
                clear KK st
                go_wp2_with fail
                go_meet
                exact ⟨_, _, S5, by first | exact V5 | exact fun _ _ => rfl, D5⟩
              · have S5 := Lib.hid ha5
                have V5 := Lib.hid hv5
                have D5 := Lib.hid ((DM.out.quit st.out.a hp5).put x.own)
                clear KK ha5 hv5 hp5 st
                go_wp2_with fail
                go_meet
                exact ⟨_, _, S5, by first | exact V5 | exact fun _ _ => rfl, D5⟩
            · have hba : Below wr.drew.heap.size wr.drew (wr.drew.alloc (.cells #[.int .i64 x.own] 3)) := (Below.refl _ _).alloc (Nat.le_refl _) _
              have e4 := keep_cell hba d4
              have e5 : (wr.alloc (.cells #[.int .i64 x.own] 3)).drew.cell? ⟨b3, off3 + j * 5 + 4, none⟩ = some (.slice x.ma x.more.length x.mc) := e4
              have HMO := Lib.hid (HOK.out.m.below hba)
              have HR0 : Hid (RowI (wr.drew.alloc (.cells #[.int .i64 x.own] 3)) wr.heap.size (.slice (some ⟨wr.drew.heap.size, 0, none⟩) 1 1) [x.own]) := World.ownsRow_lit wr.drew #[.int .i64 x.own] 1 (Nat.le_refl _) (by decide) rfl
              have HBA := Lib.hid (hbd.trans (hba.mono (Nat.le_refl _)))
              have hsz : wr.heap.size ≤ (wr.drew.alloc (.cells #[.int .i64 x.own] 3)).heap.size := HBA.out.size
              have hlen : [x.own].length + x.more.length ≤ 1000000 := by have := hbig.2; simp; omega
              have HWFO : Hid (∀ z, z ∈ [x.own] ++ x.more → (Lit.int .i64 z).wf = true) := fun z hz => (List.mem_append.1 hz).elim (fun c => by rw [List.mem_singleton.1 c]; exact how) (fun c => HOK.out.mw z c)
              have HMLN : Hid (([x.own] ++ x.more).length ≤ 12) := by have := hbig.2; show _ ≤ 12; simp; omega
              have HVN : Hid (∀ g, ((Value.slice aO os.length cO)).ownBlock = some g → g < wr.heap.size) := fun g e => by
                obtain ⟨_, i, u, hu⟩ := st.out.pv g e
                exact block_lt (p := ⟨g, i, none⟩) hu
              clear hba hbd hkd how d1 d2 d3
              go_upto_region 9 with fail
              go_region_law ((first
                | (go_simp; go_at_call 14; (with_reducible refine KF.out.mono ?_); rintro e w5 ⟨_, _, _, n5, s5, rfl, _, _, hp5, _, _, ha5, hv5⟩; have S5 := Lib.hid ha5; have V5 : Hid (∀ g, ((Value.slice aO os.length cO)).ownBlock = some g → w5.heap[g]? = wr.heap[g]?) := (fun g e => (hv5 g e).trans (S4.out.2 g e)); have D5 := Lib.hid ((DM.out.free S4.out.1.a hp5).put x.own); clear ha5 hv5 hp5; go_simp)
                | (refine step_append_ii (by rfl) _ _ (by rfl) wr.heap.size (.slice (some ⟨wr.drew.heap.size, 0, none⟩) 1 1) [x.own] x.ma x.more x.mc (by rfl) HR0.out (by rfl) HMO.out hlen hsz ?_; intro v4 w4 hr4 hg4 ho4; have hb4 := HBA.out.grown hg4 hsz (fun g e => (World.ownsRow.lt HR0.out g e).1); have S4 := Lib.hid (st.out.below hb4); obtain ⟨g4, c4, rfl, hB4, hc4⟩ := hr4.cells (by simp); have KF := Lib.hid (free_ac S4.out.1 (by omega) (cap := c4) (st.out.t.nt_new hB4) (fun e => by have := HVN.out g4 e; omega) hc4 (by simp) HWFO.out HMLN.out); change Hid (Calls _ _ #[_, .slice _ (x.more.length + 1) _] _ _) at KF; clear hr4 hg4 ho4 hb4 hc4)))
              all_goals clear KF S4 HR0 HMO HBA HWFO HMLN HVN SD SV d4 e4 e5 st HOK hsz hlen
              all_goals
                go_wp2_with fail
                go_meet
                exact ⟨_, _, S5, by first | exact V5 | exact fun _ _ => rfl, D5⟩

        case rest =>
          obtain ⟨n1, s1, S1, V1, D1⟩ := hcut
          rename World => wx
          have HLT := Lib.hid hlt
          have KW := Lib.hid (refWith_any ow true aO os cO wx (by have := HOL.out; have := HGR.out.1; omega) (HIO.out wx V1.out))
          have mo := HMK.out wx S1.out.bw
          rw [withL_put sf.out.up] at KW
          have UP := Lib.hid (putS_up sf.out.up ow)
          have LN : Hid ((putS os ow).length ≤ j + 1) := by
            have h1 := putS_len os ow
            have h2 := HOL.out
            show (putS os ow).length ≤ j + 1
            omega
          have WFO : Hid (∀ o, o ∈ putS os ow → (Lit.int .i64 o).wf = true) := fun o ho => by
            rcases putS_mem.1 ho with c | c
            · rw [c]; exact HWO.out
            · exact sf.out.wf o c
          have NE : Hid (putS os ow ≠ []) := fun e => by
            have : ow ∈ putS os ow := putS_mem.2 (.inl rfl)
            rw [e] at this; cases this
          clear sf st DM HOL HIO HMK HWO V1 m0 how0 hlt
          generalize putS os ow = os2 at *
          go_wp2_with fail
          refine KW.out.mono ?_
          rintro e w6 ⟨v6, rfl, hr6, hb6⟩
          have hr6 : RowI w6 wx.heap.size v6 os2 := hr6
          have SE : Hid (SfW w0 w6 T ml mh mw n1 s1 (j + 1) v6 os2) := by
            have h := (S1.out.below hb6).1
            refine ⟨⟨h.t, h.a, h.bw, fun g e => ⟨S1.out.t.nt_new (World.ownsRow.lt hr6 g e).1, 0, (own0 hr6 (by decide) (fun e => absurd (List.length_eq_zero_iff.1 e) NE.out) g e).1⟩⟩, rowI_mono hr6 S1.out.bw.size, fun e => absurd e NE.out, UP.out, D1.out, LN.out, WFO.out⟩
          obtain ⟨a6, c6, hv6, hI6⟩ := hr6.form
          have HI6 : Hid (∀ X, Below w6.heap.size w6 X → IntsAt X a6 os2) := fun X hX => hI6 X (fun g e => hX.block g (World.ownsRow.lt hr6 g e).2)
          subst hv6
          have hoi : (os2.length : Int) ≤ 61 := by have h1 := LN.out; have h2 := HLT.out; have h3 := HGR.out.1; omega
          have B0 : Hid (Below w6.heap.size w6 w6) := Below.refl _ _
          clear hr6 hI6 hb6 KW mo S1 LN NE
          go_wp2
          go_loopw [6] (fun i wy => ∃ a : Nat, i = .int .i64 (a : Int) ∧ a ≤ os2.length ∧ Hid (Below w6.heap.size w6 wy)) (fun i _ => os2.length - (intOf i).toNat)
          case atStart => exact ⟨0, rfl, Nat.zero_le _, B0⟩
          case round =>
            obtain ⟨a, rfl, ha, hby⟩ := hrel
            rename World => wy
            clear B0
            by_cases hla : a < os2.length
            · obtain ⟨bo, oo, hao, co⟩ := (HI6.out wy hby.out).cell hla
              have HOA : Hid (os2.getD a 0 ∈ os2) := by
                rw [List.getD_eq_getElem?_getD, List.getElem?_eq_getElem hla]
                exact List.getElem_mem hla
              subst hao
              obtain ⟨oa, hoa⟩ : ∃ oa, os2.getD a 0 = oa := ⟨_, rfl⟩
              have HOAE := Lib.hid hoa
              rw [hoa] at co HOA
              clear hoa
              have hwa := WFO.out _ HOA.out
              have SY := Lib.hid (SE.out.below hby.out).a
              have hn6 := SY.out.a.nb
              have KH := Lib.hid (holds_any SY.out.t SY.out.a.g.c (o := oa) hwa (by have := HLT.out; have := HGR.out.1; omega))
              have HLA := Lib.hid hla
              go_wp2_with fail
              refine KH.out.mono ?_
              rintro e w7 ⟨vx, lx, kx, rfl, hrx, _, _, px, _, hkx, hb7⟩
              have SX := Lib.hid (SY.out.below hb7).1
              have HRX := Lib.hid hrx
              have PX := Lib.hid px
              have KX := Lib.hid hkx
              have HBX := Lib.hid (hby.out.trans (hb7.mono hby.out.size))
              have KWt := Lib.hid (waits_u SX.out.t SX.out.a.g.c (o := oa) hwa)
              obtain ⟨bo2, oo2, hao2, co2⟩ := (HI6.out w7 HBX.out).cell HLA.out
              cases hao2
              rw [HOAE.out] at co2
              have hlx : lx.length ≤ maxLen := rowC_len hrx
              unfold maxLen at hlx
              clear hrx px hkx hb7 KH co SY hby
              go_wp2_with fail
              refine KWt.out.mono ?_
              rintro e w8 ⟨ck, cb, bw, rfl, hbw, hb8⟩
              have HBW := Lib.hid hbw
              have HB8 := Lib.hid (HBX.out.trans (hb8.mono HBX.out.size))
              have HX8 : Hid (∀ X, Below w8.heap.size w8 X → ∀ g, vx.ownBlock = some g → X.heap[g]? = w7.heap[g]?) := fun X hX g e => by
                have h1 := (World.ownsRow.lt HRX.out g e).2
                exact (hX.block g (Nat.lt_of_lt_of_le h1 hb8.size)).trans (hb8.block g h1)
              obtain ⟨ax, cx, hvx, hcx⟩ := HRX.out.cells
              have HCX := Lib.hid hcx
              clear hbw hb8 KWt SX co2 hcx
              subst hvx
              go_upto_region 20 with fail
              have cc0 : (w8.alloc (.cells #[.string ck, .bool cb] 40)).cell? ⟨w8.heap.size, 0, none⟩ = some (.string ck) := new_cell rfl rfl
              have hba : Below w8.heap.size w8 (w8.alloc (.cells #[.string ck, .bool cb] 40)) := (Below.refl _ _).alloc (Nat.le_refl _) _
              have HB9 := Lib.hid (HB8.out.trans (hba.mono HB8.out.size))
              have HX9 : Hid (∀ X, Below (w8.alloc (.cells #[.string ck, .bool cb] 40)).heap.size (w8.alloc (.cells #[.string ck, .bool cb] 40)) X → ∀ g, (Value.slice ax lx.length cx).ownBlock = some g → X.heap[g]? = w7.heap[g]?) := fun X hX => HX8.out X (hba.trans (hX.mono hba.size))
              have HCC : Hid (∀ X, Below (w8.alloc (.cells #[.string ck, .bool cb] 40)).heap.size (w8.alloc (.cells #[.string ck, .bool cb] 40)) X → X.cell? ⟨w8.heap.size, 0, none⟩ = some (.string ck)) := fun X hX => keep_cell hX cc0
              clear hba cc0 HB8 HX8
              generalize (w8.alloc (.cells #[.string ck, .bool cb] 40)) = w9 at *
              generalize w8.heap.size = C at *
              have S0b : Hid (Below w9.heap.size w9 w9) := Below.refl _ _
              have Q0 : Hid ((bw = false ∨ ∃ b', b' < 0 ∧ s1.hd (os2.getD b' 0) ck ≠ none) → (!bw) = true) := fun h => by
                rcases h with h | ⟨b', h, _⟩
                · rw [h]; rfl
                · omega
              go_wp2
              go_loopw [10, 11] (fun sm i wz => ∃ (b : Nat) (q : Bool), sm = .bool q ∧ i = .int .i64 (b : Int) ∧ b ≤ os2.length ∧ Hid (Below w9.heap.size w9 wz) ∧ Hid ((bw = false ∨ ∃ b', b' < b ∧ s1.hd (os2.getD b' 0) ck ≠ none) → q = true)) (fun _ i _ => os2.length - (intOf i).toNat)
              case atStart => exact ⟨0, !bw, rfl, rfl, Nat.zero_le _, S0b, Q0⟩
              case round =>
                obtain ⟨b, q, rfl, rfl, hb, hbz, hq⟩ := hrel
                rename World => wz
                clear S0b Q0
                by_cases hlb : b < os2.length
                · have HBZ6 := Lib.hid (HB9.out.trans (hbz.out.mono HB9.out.size))
                  obtain ⟨bo3, oo3, hao3, co3⟩ := (HI6.out wz HBZ6.out).cell hlb
                  cases hao3
                  have HOB : Hid (os2.getD b 0 ∈ os2) := by
                    rw [List.getD_eq_getElem?_getD, List.getElem?_eq_getElem hlb]
                    exact List.getElem_mem hlb
                  obtain ⟨ob, hob⟩ : ∃ ob, os2.getD b 0 = ob := ⟨_, rfl⟩
                  have HOBE := Lib.hid hob
                  rw [hob] at co3 HOB
                  clear hob
                  have hwb := WFO.out _ HOB.out
                  have SZ := Lib.hid (SE.out.below HBZ6.out).a
                  have hn6 := SZ.out.a.nb
                  have KY := Lib.hid (holds_any SZ.out.t SZ.out.a.g.c (o := ob) hwb (by have := HLT.out; have := HGR.out.1; omega))
                  have HLB := Lib.hid hlb
                  go_wp2_with fail
                  refine KY.out.mono ?_
                  rintro e w10 ⟨vy, ly, ky, rfl, hry, _, _, py, _, hky, hb10⟩
                  have HBA := Lib.hid (hbz.out.trans (hb10.mono hbz.out.size))
                  have HRY := Lib.hid hry
                  have PY := Lib.hid py
                  have KYY := Lib.hid hky
                  obtain ⟨ay, cy9, hvy, hcy⟩ := hry.cells
                  have HCY := Lib.hid hcy
                  have hly : ly.length ≤ maxLen := rowC_len hry
                  unfold maxLen at hly
                  have HYX : Hid (∀ X, Below w10.heap.size w10 X → ∀ g, vy.ownBlock = some g → X.heap[g]? = w10.heap[g]?) := fun X hX g e => hX.block g (World.ownsRow.lt HRY.out g e).2
                  have SAF : Hid (a ≠ b → ∀ x y : Cl, x ∈ lx → y ∈ ly → x.1 = y.1 → x.2 = false ∧ y.2 = false) := fun hab x y mx my e => rows_safe SE.out.a.a.g.c (oa := oa) (ob := ob) (by
                    have := up_ne UP.out HLA.out HLB.out hab
                    rw [HOAE.out, HOBE.out] at this
                    exact this) PX.out KX.out PY.out KYY.out mx my e
                  have FND : Hid (s1.hd ob ck ≠ none → ∃ (k' : Nat) (h : k' < ly.length), ly[k'].1 = ck) := fun h => by
                    obtain ⟨z, hz, e⟩ := mem_row PY.out KYY.out h
                    obtain ⟨k', hk', e2⟩ := List.mem_iff_getElem.1 hz
                    exact ⟨k', hk', by rw [e2]; exact e⟩
                  subst hvy
                  have S0k : Hid (Below w10.heap.size w10 w10) := Below.refl _ _
                  have Q0k : Hid ((q = true ∨ ∃ (k' : Nat) (h : k' < ly.length), k' < 0 ∧ ly[k'].1 = ck) → q = true) := fun h => by
                    rcases h with h | ⟨k', _, h, _⟩
                    · exact h
                    · omega
                  clear hry py hky hb10 hcy KY SZ co3 hbz HBZ6
                  go_wp2
                  go_loopw [10, 13] (fun sm i wu => ∃ (k : Nat) (q1 : Bool), sm = .bool q1 ∧ i = .int .i64 (k : Int) ∧ k ≤ ly.length ∧ Hid (Below w10.heap.size w10 wu) ∧ Hid ((q = true ∨ ∃ (k' : Nat) (h : k' < ly.length), k' < k ∧ ly[k'].1 = ck) → q1 = true)) (fun _ i _ => ly.length - (intOf i).toNat)
                  case atStart => exact ⟨0, q, rfl, rfl, Nat.zero_le _, S0k, Q0k⟩
                  case round =>
                    obtain ⟨k, q1, rfl, rfl, hk, hbu, hq1⟩ := hrel
                    rename World => wu
                    clear S0k Q0k
                    by_cases hlk : k < ly.length
                    · obtain ⟨gy, hay, hoy, hxy⟩ := HCY.out k hlk
                      subst hay
                      have hbd : Below w10.heap.size w10 wu.drew := hbu.out.drew
                      obtain ⟨cy, cyb⟩ := hxy wu.drew (HYX.out _ hbd gy rfl)
                      have cc := HCC.out wu.drew (HBA.out.trans (hbd.mono HBA.out.size))
                      have HMY : Hid (ly[k] ∈ ly) := List.getElem_mem hlk
                      have HLK := Lib.hid hlk
                      have HYK : Hid (∀ q2 : Bool, ((q1 = true ∨ ly[k].1 = ck) → q2 = true) → ((q = true ∨ ∃ (k' : Nat) (h : k' < ly.length), k' < k + 1 ∧ ly[k'].1 = ck) → q2 = true)) := fun q2 h2 h => by
                        rcases h with h | ⟨k', h, h3, h4⟩
                        · exact h2 (.inl (hq1.out (.inl h)))
                        · by_cases e : k' = k
                          · subst e; exact h2 (.inr h4)
                          · exact h2 (.inl (hq1.out (.inr ⟨k', h, by omega, h4⟩)))
                      have HXY : Hid (∀ X : World, X.heap[gy]? = w10.heap[gy]? → X.cell? ⟨gy, k * 2, none⟩ = some (.string ly[k].1) ∧ X.cell? ⟨gy, k * 2 + 1, none⟩ = some (.bool ly[k].2)) := hxy
                      have HBD := Lib.hid hbd
                      clear hxy hbd hbu hq1 cyb
                      generalize ly[k] = y at *
                      obtain ⟨yk, yw⟩ := y
                      replace cy : wu.drew.cell? ⟨gy, k * 2, none⟩ = some (.string yk) := cy
                      go_upto_region 28 with fail
                      go_cut [10] from 126 to 136 (fun v wv => ∃ q2 : Bool, v = .bool q2 ∧ Hid (Below w10.heap.size w10 wv) ∧ Hid ((q1 = true ∨ yk = ck) → q2 = true))
                      case first =>
                        cases q1 with
                        | true =>
                          refine wp_region_held_drew (S := fun w' => w'.cell? ⟨gy, k * 2, none⟩ = some (.string yk) ∧ w'.cell? ⟨C, 0, none⟩ = some (.string ck)) (by kernel_rfl) ?_ (fun hHeld => ?_)
                          · (try dsimp only); exact ⟨cy, cc⟩
                          refine wpAnyH_take (i := 0) (oi := { dst := some 126, op := Op.move (Operand.tmp 10), type := 4, pos := "law.go:125", after := #[], guard := none }) (v := ?_) rfl (by kernel_rfl) (by kernel_rfl) (by kernel_rfl) (fun _ _ _ h => h) (Or.inl ⟨by rfl, ?_⟩) (by assumption) ?_
                          rotate_left 1
                          · (intro w' hSw; (try obtain ⟨s0, s1⟩ := hSw); go_simp; try (with_reducible rfl))
                          try simp only [Act.put, List.setIfInBounds_toArray, List.set_cons_zero, List.set_cons_succ]
                          refine wpAnyH_take (i := 1) (oi := { dst := some 127, op := Op.move (Operand.tmp 126), type := 4, pos := "law.go:125", after := #[{ on := 0, ground := Ground.data }], guard := none }) (v := ?_) rfl (by kernel_rfl) (by kernel_rfl) (by kernel_rfl) (fun _ _ _ h => h) (Or.inl ⟨by rfl, ?_⟩) (by assumption) ?_
                          rotate_left 1
                          · (intro w' hSw; (try obtain ⟨s0, s1⟩ := hSw); go_simp; try (with_reducible rfl))
                          try simp only [Act.put, List.setIfInBounds_toArray, List.set_cons_zero, List.set_cons_succ]
                          refine wpAnyH_take (i := 2) (oi := { dst := some 128, op := Op.move (Operand.tmp 12), type := 44, pos := "law.go:125", after := #[{ on := 1, ground := Ground.guard }], guard := some (1, false) }) (v := undef) rfl (by kernel_rfl) (by kernel_rfl) (by kernel_rfl) (fun _ _ _ h => h) (Or.inr ⟨by rfl, rfl⟩) (by assumption) ?_
                          try simp only [Act.put, List.setIfInBounds_toArray, List.set_cons_zero, List.set_cons_succ]
                          refine wpAnyH_take (i := 3) (oi := { dst := some 129, op := Op.move (Operand.tmp 13), type := 3, pos := "law.go:125", after := #[{ on := 1, ground := Ground.guard }], guard := some (1, false) }) (v := undef) rfl (by kernel_rfl) (by kernel_rfl) (by kernel_rfl) (fun _ _ _ h => h) (Or.inr ⟨by rfl, rfl⟩) (by assumption) ?_
                          try simp only [Act.put, List.setIfInBounds_toArray, List.set_cons_zero, List.set_cons_succ]
                          refine wpAnyH_take (i := 4) (oi := { dst := some 130, op := Op.indexAddr 44 (Operand.tmp 128) (Operand.tmp 129), type := 0, pos := "law.go:125", after := #[{ on := 2, ground := Ground.data }, { on := 3, ground := Ground.data }, { on := 1, ground := Ground.guard }], guard := some (1, false) }) (v := undef) rfl (by kernel_rfl) (by kernel_rfl) (by kernel_rfl) (fun _ _ _ h => h) (Or.inr ⟨by rfl, rfl⟩) (by assumption) ?_
                          try simp only [Act.put, List.setIfInBounds_toArray, List.set_cons_zero, List.set_cons_succ]
                          refine wpAnyH_take (i := 5) (oi := { dst := some 131, op := Op.fieldAddr 40 (Operand.tmp 130) 0, type := 0, pos := "law.go:125", after := #[{ on := 4, ground := Ground.data }, { on := 1, ground := Ground.guard }], guard := some (1, false) }) (v := undef) rfl (by kernel_rfl) (by kernel_rfl) (by kernel_rfl) (fun _ _ _ h => h) (Or.inr ⟨by rfl, rfl⟩) (by assumption) ?_
                          try simp only [Act.put, List.setIfInBounds_toArray, List.set_cons_zero, List.set_cons_succ]
                          refine wpAnyH_take (i := 6) (oi := { dst := some 132, op := Op.load 9 (Operand.tmp 131), type := 9, pos := "law.go:125", after := #[{ on := 5, ground := Ground.data }, { on := 1, ground := Ground.guard }], guard := some (1, false) }) (v := undef) rfl (by kernel_rfl) (by kernel_rfl) (by kernel_rfl) (fun _ _ _ h => h) (Or.inr ⟨by rfl, rfl⟩) (by assumption) ?_
                          try simp only [Act.put, List.setIfInBounds_toArray, List.set_cons_zero, List.set_cons_succ]
                          refine wpAnyH_take (i := 7) (oi := { dst := some 133, op := Op.fieldAddr 40 (Operand.tmp 8) 0, type := 0, pos := "law.go:125", after := #[{ on := 1, ground := Ground.guard }], guard := some (1, false) }) (v := undef) rfl (by kernel_rfl) (by kernel_rfl) (by kernel_rfl) (fun _ _ _ h => h) (Or.inr ⟨by rfl, rfl⟩) (by assumption) ?_
                          try simp only [Act.put, List.setIfInBounds_toArray, List.set_cons_zero, List.set_cons_succ]
                          refine wpAnyH_take (i := 8) (oi := { dst := some 134, op := Op.load 9 (Operand.tmp 133), type := 9, pos := "law.go:125", after := #[{ on := 7, ground := Ground.data }, { on := 1, ground := Ground.guard }], guard := some (1, false) }) (v := undef) rfl (by kernel_rfl) (by kernel_rfl) (by kernel_rfl) (fun _ _ _ h => h) (Or.inr ⟨by rfl, rfl⟩) (by assumption) ?_
                          try simp only [Act.put, List.setIfInBounds_toArray, List.set_cons_zero, List.set_cons_succ]
                          refine wpAnyH_take (i := 9) (oi := { dst := some 135, op := Op.binOp BinOp.eql 9 (Operand.tmp 132) (Operand.tmp 134) 9, type := 4, pos := "law.go:125", after := #[{ on := 6, ground := Ground.data }, { on := 8, ground := Ground.data }, { on := 1, ground := Ground.guard }], guard := some (1, false) }) (v := undef) rfl (by kernel_rfl) (by kernel_rfl) (by kernel_rfl) (fun _ _ _ h => h) (Or.inr ⟨by rfl, rfl⟩) (by assumption) ?_
                          try simp only [Act.put, List.setIfInBounds_toArray, List.set_cons_zero, List.set_cons_succ]
                          refine wpAnyH_take (i := 10) (oi := { dst := some 136, op := Op.pick (Operand.tmp 127) (Operand.const (Value.bool true)) (Operand.tmp 135), type := 4, pos := "law.go:125", after := #[{ on := 1, ground := Ground.data }, { on := 9, ground := Ground.data }], guard := none }) (v := ?_) rfl (by kernel_rfl) (by kernel_rfl) (by kernel_rfl) (fun _ _ _ h => h) (Or.inl ⟨by rfl, ?_⟩) (by assumption) ?_
                          rotate_left 1
                          · (intro w' hSw; (try obtain ⟨s0, s1⟩ := hSw); go_simp; try (with_reducible rfl))
                          try simp only [Act.put, List.setIfInBounds_toArray, List.set_cons_zero, List.set_cons_succ]
                          refine wpAnyH_take (i := 11) (oi := { dst := some 10, op := Op.assign (Operand.tmp 136), type := 4, pos := "law.go:125", after := #[{ on := 10, ground := Ground.data }, { on := 1, ground := Ground.chain }, { on := 0, ground := Ground.phase }, { on := 1, ground := Ground.phase }, { on := 2, ground := Ground.phase }, { on := 3, ground := Ground.phase }, { on := 4, ground := Ground.phase }, { on := 5, ground := Ground.phase }, { on := 6, ground := Ground.phase }, { on := 7, ground := Ground.phase }, { on := 8, ground := Ground.phase }, { on := 9, ground := Ground.phase }, { on := 10, ground := Ground.phase }], guard := none }) (v := ?_) rfl (by kernel_rfl) (by kernel_rfl) (by kernel_rfl) (fun _ _ _ h => h) (Or.inl ⟨by rfl, ?_⟩) (by assumption) ?_
                          rotate_left 1
                          · (intro w' hSw; (try obtain ⟨s0, s1⟩ := hSw); go_simp; try (with_reducible rfl))
                          try simp only [Act.put, List.setIfInBounds_toArray, List.set_cons_zero, List.set_cons_succ]
                          refine wpAnyH_done (by kernel_rfl) ?_ _
                          clear hHeld
                          go_wp2_with fail
                          go_meet
                          exact ⟨true, rfl, HBD, fun _ => rfl⟩
                        | false =>
                          by_cases hyc : yk = ck
                          · subst hyc
                            refine wp_region_held_drew (S := fun w' => w'.cell? ⟨gy, k * 2, none⟩ = some (.string yk) ∧ w'.cell? ⟨C, 0, none⟩ = some (.string yk)) (by kernel_rfl) ?_ (fun hHeld => ?_)
                            · (try dsimp only); exact ⟨cy, cc⟩
                            refine wpAnyH_take (i := 0) (oi := { dst := some 126, op := Op.move (Operand.tmp 10), type := 4, pos := "law.go:125", after := #[], guard := none }) (v := ?_) rfl (by kernel_rfl) (by kernel_rfl) (by kernel_rfl) (fun _ _ _ h => h) (Or.inl ⟨by rfl, ?_⟩) (by assumption) ?_
                            rotate_left 1
                            · (intro w' hSw; (try obtain ⟨s0, s1⟩ := hSw); go_simp; try (with_reducible rfl))
                            try simp only [Act.put, List.setIfInBounds_toArray, List.set_cons_zero, List.set_cons_succ]
                            refine wpAnyH_take (i := 1) (oi := { dst := some 127, op := Op.move (Operand.tmp 126), type := 4, pos := "law.go:125", after := #[{ on := 0, ground := Ground.data }], guard := none }) (v := ?_) rfl (by kernel_rfl) (by kernel_rfl) (by kernel_rfl) (fun _ _ _ h => h) (Or.inl ⟨by rfl, ?_⟩) (by assumption) ?_
                            rotate_left 1
                            · (intro w' hSw; (try obtain ⟨s0, s1⟩ := hSw); go_simp; try (with_reducible rfl))
                            try simp only [Act.put, List.setIfInBounds_toArray, List.set_cons_zero, List.set_cons_succ]
                            refine wpAnyH_take (i := 2) (oi := { dst := some 128, op := Op.move (Operand.tmp 12), type := 44, pos := "law.go:125", after := #[{ on := 1, ground := Ground.guard }], guard := some (1, false) }) (v := ?_) rfl (by kernel_rfl) (by kernel_rfl) (by kernel_rfl) (fun _ _ _ h => h) (Or.inl ⟨by rfl, ?_⟩) (by assumption) ?_
                            rotate_left 1
                            · (intro w' hSw; (try obtain ⟨s0, s1⟩ := hSw); go_simp; try (with_reducible rfl))
                            try simp only [Act.put, List.setIfInBounds_toArray, List.set_cons_zero, List.set_cons_succ]
                            refine wpAnyH_take (i := 3) (oi := { dst := some 129, op := Op.move (Operand.tmp 13), type := 3, pos := "law.go:125", after := #[{ on := 1, ground := Ground.guard }], guard := some (1, false) }) (v := ?_) rfl (by kernel_rfl) (by kernel_rfl) (by kernel_rfl) (fun _ _ _ h => h) (Or.inl ⟨by rfl, ?_⟩) (by assumption) ?_
                            rotate_left 1
                            · (intro w' hSw; (try obtain ⟨s0, s1⟩ := hSw); go_simp; try (with_reducible rfl))
                            try simp only [Act.put, List.setIfInBounds_toArray, List.set_cons_zero, List.set_cons_succ]
                            refine wpAnyH_take (i := 4) (oi := { dst := some 130, op := Op.indexAddr 44 (Operand.tmp 128) (Operand.tmp 129), type := 0, pos := "law.go:125", after := #[{ on := 2, ground := Ground.data }, { on := 3, ground := Ground.data }, { on := 1, ground := Ground.guard }], guard := some (1, false) }) (v := ?_) rfl (by kernel_rfl) (by kernel_rfl) (by kernel_rfl) (fun _ _ _ h => h) (Or.inl ⟨by rfl, ?_⟩) (by assumption) ?_
                            rotate_left 1
                            · (intro w' hSw; (try obtain ⟨s0, s1⟩ := hSw); go_simp; try (with_reducible rfl))
                            try simp only [Act.put, List.setIfInBounds_toArray, List.set_cons_zero, List.set_cons_succ]
                            refine wpAnyH_take (i := 5) (oi := { dst := some 131, op := Op.fieldAddr 40 (Operand.tmp 130) 0, type := 0, pos := "law.go:125", after := #[{ on := 4, ground := Ground.data }, { on := 1, ground := Ground.guard }], guard := some (1, false) }) (v := ?_) rfl (by kernel_rfl) (by kernel_rfl) (by kernel_rfl) (fun _ _ _ h => h) (Or.inl ⟨by rfl, ?_⟩) (by assumption) ?_
                            rotate_left 1
                            · (intro w' hSw; (try obtain ⟨s0, s1⟩ := hSw); go_simp; try (with_reducible rfl))
                            try simp only [Act.put, List.setIfInBounds_toArray, List.set_cons_zero, List.set_cons_succ]
                            refine wpAnyH_take (i := 6) (oi := { dst := some 132, op := Op.load 9 (Operand.tmp 131), type := 9, pos := "law.go:125", after := #[{ on := 5, ground := Ground.data }, { on := 1, ground := Ground.guard }], guard := some (1, false) }) (v := ?_) rfl (by kernel_rfl) (by kernel_rfl) (by kernel_rfl) (fun _ _ _ h => h) (Or.inl ⟨by rfl, ?_⟩) (by assumption) ?_
                            rotate_left 1
                            · (intro w' hSw; (try obtain ⟨s0, s1⟩ := hSw); go_simp; try (with_reducible rfl))
                            try simp only [Act.put, List.setIfInBounds_toArray, List.set_cons_zero, List.set_cons_succ]
                            refine wpAnyH_take (i := 7) (oi := { dst := some 133, op := Op.fieldAddr 40 (Operand.tmp 8) 0, type := 0, pos := "law.go:125", after := #[{ on := 1, ground := Ground.guard }], guard := some (1, false) }) (v := ?_) rfl (by kernel_rfl) (by kernel_rfl) (by kernel_rfl) (fun _ _ _ h => h) (Or.inl ⟨by rfl, ?_⟩) (by assumption) ?_
                            rotate_left 1
                            · (intro w' hSw; (try obtain ⟨s0, s1⟩ := hSw); go_simp; try (with_reducible rfl))
                            try simp only [Act.put, List.setIfInBounds_toArray, List.set_cons_zero, List.set_cons_succ]
                            refine wpAnyH_take (i := 8) (oi := { dst := some 134, op := Op.load 9 (Operand.tmp 133), type := 9, pos := "law.go:125", after := #[{ on := 7, ground := Ground.data }, { on := 1, ground := Ground.guard }], guard := some (1, false) }) (v := ?_) rfl (by kernel_rfl) (by kernel_rfl) (by kernel_rfl) (fun _ _ _ h => h) (Or.inl ⟨by rfl, ?_⟩) (by assumption) ?_
                            rotate_left 1
                            · (intro w' hSw; (try obtain ⟨s0, s1⟩ := hSw); go_simp; try (with_reducible rfl))
                            try simp only [Act.put, List.setIfInBounds_toArray, List.set_cons_zero, List.set_cons_succ]
                            refine wpAnyH_take (i := 9) (oi := { dst := some 135, op := Op.binOp BinOp.eql 9 (Operand.tmp 132) (Operand.tmp 134) 9, type := 4, pos := "law.go:125", after := #[{ on := 6, ground := Ground.data }, { on := 8, ground := Ground.data }, { on := 1, ground := Ground.guard }], guard := some (1, false) }) (v := ?_) rfl (by kernel_rfl) (by kernel_rfl) (by kernel_rfl) (fun _ _ _ h => h) (Or.inl ⟨by rfl, ?_⟩) (by assumption) ?_
                            rotate_left 1
                            · (intro w' hSw; (try obtain ⟨s0, s1⟩ := hSw); go_simp; try (with_reducible rfl))
                            try simp only [Act.put, List.setIfInBounds_toArray, List.set_cons_zero, List.set_cons_succ]
                            refine wpAnyH_take (i := 10) (oi := { dst := some 136, op := Op.pick (Operand.tmp 127) (Operand.const (Value.bool true)) (Operand.tmp 135), type := 4, pos := "law.go:125", after := #[{ on := 1, ground := Ground.data }, { on := 9, ground := Ground.data }], guard := none }) (v := ?_) rfl (by kernel_rfl) (by kernel_rfl) (by kernel_rfl) (fun _ _ _ h => h) (Or.inl ⟨by rfl, ?_⟩) (by assumption) ?_
                            rotate_left 1
                            · (intro w' hSw; (try obtain ⟨s0, s1⟩ := hSw); go_simp; try (with_reducible rfl))
                            try simp only [Act.put, List.setIfInBounds_toArray, List.set_cons_zero, List.set_cons_succ]
                            refine wpAnyH_take (i := 11) (oi := { dst := some 10, op := Op.assign (Operand.tmp 136), type := 4, pos := "law.go:125", after := #[{ on := 10, ground := Ground.data }, { on := 1, ground := Ground.chain }, { on := 0, ground := Ground.phase }, { on := 1, ground := Ground.phase }, { on := 2, ground := Ground.phase }, { on := 3, ground := Ground.phase }, { on := 4, ground := Ground.phase }, { on := 5, ground := Ground.phase }, { on := 6, ground := Ground.phase }, { on := 7, ground := Ground.phase }, { on := 8, ground := Ground.phase }, { on := 9, ground := Ground.phase }, { on := 10, ground := Ground.phase }], guard := none }) (v := ?_) rfl (by kernel_rfl) (by kernel_rfl) (by kernel_rfl) (fun _ _ _ h => h) (Or.inl ⟨by rfl, ?_⟩) (by assumption) ?_
                            rotate_left 1
                            · (intro w' hSw; (try obtain ⟨s0, s1⟩ := hSw); go_simp; try (with_reducible rfl))
                            try simp only [Act.put, List.setIfInBounds_toArray, List.set_cons_zero, List.set_cons_succ]
                            refine wpAnyH_done (by kernel_rfl) ?_ _
                            clear hHeld
                            go_wp2_with fail
                            go_meet
                            exact ⟨true, rfl, HBD, fun _ => rfl⟩
                          · have hne := str_ne hyc
                            refine wp_region_held_drew (S := fun w' => w'.cell? ⟨gy, k * 2, none⟩ = some (.string yk) ∧ w'.cell? ⟨C, 0, none⟩ = some (.string ck)) (by kernel_rfl) ?_ (fun hHeld => ?_)
                            · (try dsimp only); exact ⟨cy, cc⟩
                            refine wpAnyH_take (i := 0) (oi := { dst := some 126, op := Op.move (Operand.tmp 10), type := 4, pos := "law.go:125", after := #[], guard := none }) (v := ?_) rfl (by kernel_rfl) (by kernel_rfl) (by kernel_rfl) (fun _ _ _ h => h) (Or.inl ⟨by rfl, ?_⟩) (by assumption) ?_
                            rotate_left 1
                            · (intro w' hSw; (try obtain ⟨s0, s1⟩ := hSw); go_simp; try (with_reducible rfl))
                            try simp only [Act.put, List.setIfInBounds_toArray, List.set_cons_zero, List.set_cons_succ]
                            refine wpAnyH_take (i := 1) (oi := { dst := some 127, op := Op.move (Operand.tmp 126), type := 4, pos := "law.go:125", after := #[{ on := 0, ground := Ground.data }], guard := none }) (v := ?_) rfl (by kernel_rfl) (by kernel_rfl) (by kernel_rfl) (fun _ _ _ h => h) (Or.inl ⟨by rfl, ?_⟩) (by assumption) ?_
                            rotate_left 1
                            · (intro w' hSw; (try obtain ⟨s0, s1⟩ := hSw); go_simp; try (with_reducible rfl))
                            try simp only [Act.put, List.setIfInBounds_toArray, List.set_cons_zero, List.set_cons_succ]
                            refine wpAnyH_take (i := 2) (oi := { dst := some 128, op := Op.move (Operand.tmp 12), type := 44, pos := "law.go:125", after := #[{ on := 1, ground := Ground.guard }], guard := some (1, false) }) (v := ?_) rfl (by kernel_rfl) (by kernel_rfl) (by kernel_rfl) (fun _ _ _ h => h) (Or.inl ⟨by rfl, ?_⟩) (by assumption) ?_
                            rotate_left 1
                            · (intro w' hSw; (try obtain ⟨s0, s1⟩ := hSw); go_simp; try (with_reducible rfl))
                            try simp only [Act.put, List.setIfInBounds_toArray, List.set_cons_zero, List.set_cons_succ]
                            refine wpAnyH_take (i := 3) (oi := { dst := some 129, op := Op.move (Operand.tmp 13), type := 3, pos := "law.go:125", after := #[{ on := 1, ground := Ground.guard }], guard := some (1, false) }) (v := ?_) rfl (by kernel_rfl) (by kernel_rfl) (by kernel_rfl) (fun _ _ _ h => h) (Or.inl ⟨by rfl, ?_⟩) (by assumption) ?_
                            rotate_left 1
                            · (intro w' hSw; (try obtain ⟨s0, s1⟩ := hSw); go_simp; try (with_reducible rfl))
                            try simp only [Act.put, List.setIfInBounds_toArray, List.set_cons_zero, List.set_cons_succ]
                            refine wpAnyH_take (i := 4) (oi := { dst := some 130, op := Op.indexAddr 44 (Operand.tmp 128) (Operand.tmp 129), type := 0, pos := "law.go:125", after := #[{ on := 2, ground := Ground.data }, { on := 3, ground := Ground.data }, { on := 1, ground := Ground.guard }], guard := some (1, false) }) (v := ?_) rfl (by kernel_rfl) (by kernel_rfl) (by kernel_rfl) (fun _ _ _ h => h) (Or.inl ⟨by rfl, ?_⟩) (by assumption) ?_
                            rotate_left 1
                            · (intro w' hSw; (try obtain ⟨s0, s1⟩ := hSw); go_simp; try (with_reducible rfl))
                            try simp only [Act.put, List.setIfInBounds_toArray, List.set_cons_zero, List.set_cons_succ]
                            refine wpAnyH_take (i := 5) (oi := { dst := some 131, op := Op.fieldAddr 40 (Operand.tmp 130) 0, type := 0, pos := "law.go:125", after := #[{ on := 4, ground := Ground.data }, { on := 1, ground := Ground.guard }], guard := some (1, false) }) (v := ?_) rfl (by kernel_rfl) (by kernel_rfl) (by kernel_rfl) (fun _ _ _ h => h) (Or.inl ⟨by rfl, ?_⟩) (by assumption) ?_
                            rotate_left 1
                            · (intro w' hSw; (try obtain ⟨s0, s1⟩ := hSw); go_simp; try (with_reducible rfl))
                            try simp only [Act.put, List.setIfInBounds_toArray, List.set_cons_zero, List.set_cons_succ]
                            refine wpAnyH_take (i := 6) (oi := { dst := some 132, op := Op.load 9 (Operand.tmp 131), type := 9, pos := "law.go:125", after := #[{ on := 5, ground := Ground.data }, { on := 1, ground := Ground.guard }], guard := some (1, false) }) (v := ?_) rfl (by kernel_rfl) (by kernel_rfl) (by kernel_rfl) (fun _ _ _ h => h) (Or.inl ⟨by rfl, ?_⟩) (by assumption) ?_
                            rotate_left 1
                            · (intro w' hSw; (try obtain ⟨s0, s1⟩ := hSw); go_simp; try (with_reducible rfl))
                            try simp only [Act.put, List.setIfInBounds_toArray, List.set_cons_zero, List.set_cons_succ]
                            refine wpAnyH_take (i := 7) (oi := { dst := some 133, op := Op.fieldAddr 40 (Operand.tmp 8) 0, type := 0, pos := "law.go:125", after := #[{ on := 1, ground := Ground.guard }], guard := some (1, false) }) (v := ?_) rfl (by kernel_rfl) (by kernel_rfl) (by kernel_rfl) (fun _ _ _ h => h) (Or.inl ⟨by rfl, ?_⟩) (by assumption) ?_
                            rotate_left 1
                            · (intro w' hSw; (try obtain ⟨s0, s1⟩ := hSw); go_simp; try (with_reducible rfl))
                            try simp only [Act.put, List.setIfInBounds_toArray, List.set_cons_zero, List.set_cons_succ]
                            refine wpAnyH_take (i := 8) (oi := { dst := some 134, op := Op.load 9 (Operand.tmp 133), type := 9, pos := "law.go:125", after := #[{ on := 7, ground := Ground.data }, { on := 1, ground := Ground.guard }], guard := some (1, false) }) (v := ?_) rfl (by kernel_rfl) (by kernel_rfl) (by kernel_rfl) (fun _ _ _ h => h) (Or.inl ⟨by rfl, ?_⟩) (by assumption) ?_
                            rotate_left 1
                            · (intro w' hSw; (try obtain ⟨s0, s1⟩ := hSw); go_simp; try (with_reducible rfl))
                            try simp only [Act.put, List.setIfInBounds_toArray, List.set_cons_zero, List.set_cons_succ]
                            refine wpAnyH_take (i := 9) (oi := { dst := some 135, op := Op.binOp BinOp.eql 9 (Operand.tmp 132) (Operand.tmp 134) 9, type := 4, pos := "law.go:125", after := #[{ on := 6, ground := Ground.data }, { on := 8, ground := Ground.data }, { on := 1, ground := Ground.guard }], guard := some (1, false) }) (v := ?_) rfl (by kernel_rfl) (by kernel_rfl) (by kernel_rfl) (fun _ _ _ h => h) (Or.inl ⟨by rfl, ?_⟩) (by assumption) ?_
                            rotate_left 1
                            · (intro w' hSw; (try obtain ⟨s0, s1⟩ := hSw); go_simp; try (with_reducible rfl))
                            try simp only [Act.put, List.setIfInBounds_toArray, List.set_cons_zero, List.set_cons_succ]
                            refine wpAnyH_take (i := 10) (oi := { dst := some 136, op := Op.pick (Operand.tmp 127) (Operand.const (Value.bool true)) (Operand.tmp 135), type := 4, pos := "law.go:125", after := #[{ on := 1, ground := Ground.data }, { on := 9, ground := Ground.data }], guard := none }) (v := ?_) rfl (by kernel_rfl) (by kernel_rfl) (by kernel_rfl) (fun _ _ _ h => h) (Or.inl ⟨by rfl, ?_⟩) (by assumption) ?_
                            rotate_left 1
                            · (intro w' hSw; (try obtain ⟨s0, s1⟩ := hSw); go_simp; try (with_reducible rfl))
                            try simp only [Act.put, List.setIfInBounds_toArray, List.set_cons_zero, List.set_cons_succ]
                            refine wpAnyH_take (i := 11) (oi := { dst := some 10, op := Op.assign (Operand.tmp 136), type := 4, pos := "law.go:125", after := #[{ on := 10, ground := Ground.data }, { on := 1, ground := Ground.chain }, { on := 0, ground := Ground.phase }, { on := 1, ground := Ground.phase }, { on := 2, ground := Ground.phase }, { on := 3, ground := Ground.phase }, { on := 4, ground := Ground.phase }, { on := 5, ground := Ground.phase }, { on := 6, ground := Ground.phase }, { on := 7, ground := Ground.phase }, { on := 8, ground := Ground.phase }, { on := 9, ground := Ground.phase }, { on := 10, ground := Ground.phase }], guard := none }) (v := ?_) rfl (by kernel_rfl) (by kernel_rfl) (by kernel_rfl) (fun _ _ _ h => h) (Or.inl ⟨by rfl, ?_⟩) (by assumption) ?_
                            rotate_left 1
                            · (intro w' hSw; (try obtain ⟨s0, s1⟩ := hSw); go_simp; try (with_reducible rfl))
                            try simp only [Act.put, List.setIfInBounds_toArray, List.set_cons_zero, List.set_cons_succ]
                            refine wpAnyH_done (by kernel_rfl) ?_ _
                            clear hHeld
                            go_wp2_with fail
                            go_meet
                            exact ⟨false, rfl, HBD, fun h => h.elim id (fun c => absurd c hyc)⟩
                      case rest =>
                        obtain ⟨q2, rfl, hbv, hq2⟩ := hcut
                        rename World => wv
                        have HQ2 := Lib.hid (HYK.out q2 hq2.out)
                        have HBV := Lib.hid hbv.out
                        clear HYK HBD cy cc hq2 hbv
                        go_wp2
                        go_loopw [14] (fun i wt => ∃ jj : Nat, i = .int .i64 (jj : Int) ∧ jj ≤ lx.length ∧ Hid (Below w10.heap.size w10 wt)) (fun i _ => lx.length - (intOf i).toNat)
                        case atStart => exact ⟨0, rfl, Nat.zero_le _, HBV⟩
                        case round =>
                          obtain ⟨jj, rfl, hjj, hbt⟩ := hrel
                          rename World => wt
                          clear HBV
                          by_cases hj2 : jj < lx.length
                          · by_cases hab : a = b
                            · have habi : (a : Int) = (b : Int) := by omega
                              go_wp2
                              go_roundw
                              case rel => exact ⟨k + 1, q2, rfl, by go_num, HLK.out, hbt, HQ2⟩
                              case measure => simp [intOf]; have := HLK.out; omega
                            · have habi : ¬ (a : Int) = (b : Int) := by omega
                              obtain ⟨gx, hax, hox, hxx⟩ := HCX.out jj hj2
                              subst hax
                              have hbd : Below w10.heap.size w10 wt.drew := hbt.out.drew
                              obtain ⟨x0, x1⟩ := hxx wt.drew (HX9.out _ (HBA.out.trans (hbd.mono HBA.out.size)) gx rfl)
                              obtain ⟨y0, y1⟩ := HXY.out wt.drew (HYX.out _ hbd gy rfl)
                              have hsf := SAF.out hab lx[jj] (yk, yw) (List.getElem_mem hj2) HMY.out
                              have HBT := Lib.hid hbd
                              have HLJ := Lib.hid hj2
                              clear hxx hbd hbt
                              generalize lx[jj] = x at *
                              obtain ⟨xk, xw⟩ := x
                              replace x0 : wt.drew.cell? ⟨gx, jj * 2, none⟩ = some (.string xk) := x0
                              replace x1 : wt.drew.cell? ⟨gx, jj * 2 + 1, none⟩ = some (.bool xw) := x1
                              replace y0 : wt.drew.cell? ⟨gy, k * 2, none⟩ = some (.string yk) := y0
                              replace y1 : wt.drew.cell? ⟨gy, k * 2 + 1, none⟩ = some (.bool yw) := y1
                              by_cases hxk : xk = yk
                              · obtain ⟨f1, f2⟩ := hsf hxk
                                replace f1 : xw = false := f1
                                replace f2 : yw = false := f2
                                subst hxk f1 f2
                                clear hsf
                                go_upto_region 32 with fail
                                refine wp_region_held_drew (S := fun w' => w'.cell? ⟨gx, jj * 2, none⟩ = some (.string xk) ∧ w'.cell? ⟨gx, jj * 2 + 1, none⟩ = some (.bool false) ∧ w'.cell? ⟨gy, k * 2, none⟩ = some (.string xk) ∧ w'.cell? ⟨gy, k * 2 + 1, none⟩ = some (.bool false)) (by kernel_rfl) ?_ (fun hHeld => ?_)
                                · (try dsimp only); exact ⟨x0, x1, y0, y1⟩
                                refine wpAnyH_take (i := 0) (oi := { dst := some 148, op := Op.move (Operand.tmp 7), type := 44, pos := "law.go:127", after := #[], guard := none }) (v := ?_) rfl (by kernel_rfl) (by kernel_rfl) (by kernel_rfl) (fun _ _ _ h => h) (Or.inl ⟨by rfl, ?_⟩) (by assumption) ?_
                                rotate_left 1
                                · (intro w' hSw; (try obtain ⟨s0, s1, s2, s3⟩ := hSw); go_simp; try (with_reducible rfl))
                                try simp only [Act.put, List.setIfInBounds_toArray, List.set_cons_zero, List.set_cons_succ]
                                refine wpAnyH_take (i := 1) (oi := { dst := some 149, op := Op.move (Operand.tmp 14), type := 3, pos := "law.go:127", after := #[], guard := none }) (v := ?_) rfl (by kernel_rfl) (by kernel_rfl) (by kernel_rfl) (fun _ _ _ h => h) (Or.inl ⟨by rfl, ?_⟩) (by assumption) ?_
                                rotate_left 1
                                · (intro w' hSw; (try obtain ⟨s0, s1, s2, s3⟩ := hSw); go_simp; try (with_reducible rfl))
                                try simp only [Act.put, List.setIfInBounds_toArray, List.set_cons_zero, List.set_cons_succ]
                                refine wpAnyH_take (i := 2) (oi := { dst := some 150, op := Op.indexAddr 44 (Operand.tmp 148) (Operand.tmp 149), type := 0, pos := "law.go:127", after := #[{ on := 0, ground := Ground.data }, { on := 1, ground := Ground.data }], guard := none }) (v := ?_) rfl (by kernel_rfl) (by kernel_rfl) (by kernel_rfl) (fun _ _ _ h => h) (Or.inl ⟨by rfl, ?_⟩) (by assumption) ?_
                                rotate_left 1
                                · (intro w' hSw; (try obtain ⟨s0, s1, s2, s3⟩ := hSw); go_simp; try (with_reducible rfl))
                                try simp only [Act.put, List.setIfInBounds_toArray, List.set_cons_zero, List.set_cons_succ]
                                refine wpAnyH_take (i := 3) (oi := { dst := some 151, op := Op.fieldAddr 40 (Operand.tmp 150) 0, type := 0, pos := "law.go:127", after := #[{ on := 2, ground := Ground.data }], guard := none }) (v := ?_) rfl (by kernel_rfl) (by kernel_rfl) (by kernel_rfl) (fun _ _ _ h => h) (Or.inl ⟨by rfl, ?_⟩) (by assumption) ?_
                                rotate_left 1
                                · (intro w' hSw; (try obtain ⟨s0, s1, s2, s3⟩ := hSw); go_simp; try (with_reducible rfl))
                                try simp only [Act.put, List.setIfInBounds_toArray, List.set_cons_zero, List.set_cons_succ]
                                refine wpAnyH_take (i := 4) (oi := { dst := some 152, op := Op.load 9 (Operand.tmp 151), type := 9, pos := "law.go:127", after := #[{ on := 3, ground := Ground.data }], guard := none }) (v := ?_) rfl (by kernel_rfl) (by kernel_rfl) (by kernel_rfl) (fun _ _ _ h => h) (Or.inl ⟨by rfl, ?_⟩) (by assumption) ?_
                                rotate_left 1
                                · (intro w' hSw; (try obtain ⟨s0, s1, s2, s3⟩ := hSw); go_simp; try (with_reducible rfl))
                                try simp only [Act.put, List.setIfInBounds_toArray, List.set_cons_zero, List.set_cons_succ]
                                refine wpAnyH_take (i := 5) (oi := { dst := some 153, op := Op.move (Operand.tmp 12), type := 44, pos := "law.go:127", after := #[], guard := none }) (v := ?_) rfl (by kernel_rfl) (by kernel_rfl) (by kernel_rfl) (fun _ _ _ h => h) (Or.inl ⟨by rfl, ?_⟩) (by assumption) ?_
                                rotate_left 1
                                · (intro w' hSw; (try obtain ⟨s0, s1, s2, s3⟩ := hSw); go_simp; try (with_reducible rfl))
                                try simp only [Act.put, List.setIfInBounds_toArray, List.set_cons_zero, List.set_cons_succ]
                                refine wpAnyH_take (i := 6) (oi := { dst := some 154, op := Op.move (Operand.tmp 13), type := 3, pos := "law.go:127", after := #[], guard := none }) (v := ?_) rfl (by kernel_rfl) (by kernel_rfl) (by kernel_rfl) (fun _ _ _ h => h) (Or.inl ⟨by rfl, ?_⟩) (by assumption) ?_
                                rotate_left 1
                                · (intro w' hSw; (try obtain ⟨s0, s1, s2, s3⟩ := hSw); go_simp; try (with_reducible rfl))
                                try simp only [Act.put, List.setIfInBounds_toArray, List.set_cons_zero, List.set_cons_succ]
                                refine wpAnyH_take (i := 7) (oi := { dst := some 155, op := Op.indexAddr 44 (Operand.tmp 153) (Operand.tmp 154), type := 0, pos := "law.go:127", after := #[{ on := 5, ground := Ground.data }, { on := 6, ground := Ground.data }], guard := none }) (v := ?_) rfl (by kernel_rfl) (by kernel_rfl) (by kernel_rfl) (fun _ _ _ h => h) (Or.inl ⟨by rfl, ?_⟩) (by assumption) ?_
                                rotate_left 1
                                · (intro w' hSw; (try obtain ⟨s0, s1, s2, s3⟩ := hSw); go_simp; try (with_reducible rfl))
                                try simp only [Act.put, List.setIfInBounds_toArray, List.set_cons_zero, List.set_cons_succ]
                                refine wpAnyH_take (i := 8) (oi := { dst := some 156, op := Op.fieldAddr 40 (Operand.tmp 155) 0, type := 0, pos := "law.go:127", after := #[{ on := 7, ground := Ground.data }], guard := none }) (v := ?_) rfl (by kernel_rfl) (by kernel_rfl) (by kernel_rfl) (fun _ _ _ h => h) (Or.inl ⟨by rfl, ?_⟩) (by assumption) ?_
                                rotate_left 1
                                · (intro w' hSw; (try obtain ⟨s0, s1, s2, s3⟩ := hSw); go_simp; try (with_reducible rfl))
                                try simp only [Act.put, List.setIfInBounds_toArray, List.set_cons_zero, List.set_cons_succ]
                                refine wpAnyH_take (i := 9) (oi := { dst := some 157, op := Op.load 9 (Operand.tmp 156), type := 9, pos := "law.go:127", after := #[{ on := 8, ground := Ground.data }], guard := none }) (v := ?_) rfl (by kernel_rfl) (by kernel_rfl) (by kernel_rfl) (fun _ _ _ h => h) (Or.inl ⟨by rfl, ?_⟩) (by assumption) ?_
                                rotate_left 1
                                · (intro w' hSw; (try obtain ⟨s0, s1, s2, s3⟩ := hSw); go_simp; try (with_reducible rfl))
                                try simp only [Act.put, List.setIfInBounds_toArray, List.set_cons_zero, List.set_cons_succ]
                                refine wpAnyH_take (i := 10) (oi := { dst := some 158, op := Op.binOp BinOp.eql 9 (Operand.tmp 152) (Operand.tmp 157) 9, type := 4, pos := "law.go:127", after := #[{ on := 4, ground := Ground.data }, { on := 9, ground := Ground.data }], guard := none }) (v := ?_) rfl (by kernel_rfl) (by kernel_rfl) (by kernel_rfl) (fun _ _ _ h => h) (Or.inl ⟨by rfl, ?_⟩) (by assumption) ?_
                                rotate_left 1
                                · (intro w' hSw; (try obtain ⟨s0, s1, s2, s3⟩ := hSw); go_simp; try (with_reducible rfl))
                                try simp only [Act.put, List.setIfInBounds_toArray, List.set_cons_zero, List.set_cons_succ]
                                refine wpAnyH_take (i := 11) (oi := { dst := some 159, op := Op.move (Operand.tmp 158), type := 4, pos := "law.go:127", after := #[{ on := 10, ground := Ground.data }], guard := none }) (v := ?_) rfl (by kernel_rfl) (by kernel_rfl) (by kernel_rfl) (fun _ _ _ h => h) (Or.inl ⟨by rfl, ?_⟩) (by assumption) ?_
                                rotate_left 1
                                · (intro w' hSw; (try obtain ⟨s0, s1, s2, s3⟩ := hSw); go_simp; try (with_reducible rfl))
                                try simp only [Act.put, List.setIfInBounds_toArray, List.set_cons_zero, List.set_cons_succ]
                                refine wpAnyH_take (i := 12) (oi := { dst := some 160, op := Op.move (Operand.tmp 7), type := 44, pos := "law.go:127", after := #[{ on := 11, ground := Ground.guard }], guard := some (11, true) }) (v := ?_) rfl (by kernel_rfl) (by kernel_rfl) (by kernel_rfl) (fun _ _ _ h => h) (Or.inl ⟨by rfl, ?_⟩) (by assumption) ?_
                                rotate_left 1
                                · (intro w' hSw; (try obtain ⟨s0, s1, s2, s3⟩ := hSw); go_simp; try (with_reducible rfl))
                                try simp only [Act.put, List.setIfInBounds_toArray, List.set_cons_zero, List.set_cons_succ]
                                refine wpAnyH_take (i := 13) (oi := { dst := some 161, op := Op.move (Operand.tmp 14), type := 3, pos := "law.go:127", after := #[{ on := 11, ground := Ground.guard }], guard := some (11, true) }) (v := ?_) rfl (by kernel_rfl) (by kernel_rfl) (by kernel_rfl) (fun _ _ _ h => h) (Or.inl ⟨by rfl, ?_⟩) (by assumption) ?_
                                rotate_left 1
                                · (intro w' hSw; (try obtain ⟨s0, s1, s2, s3⟩ := hSw); go_simp; try (with_reducible rfl))
                                try simp only [Act.put, List.setIfInBounds_toArray, List.set_cons_zero, List.set_cons_succ]
                                refine wpAnyH_take (i := 14) (oi := { dst := some 162, op := Op.indexAddr 44 (Operand.tmp 160) (Operand.tmp 161), type := 0, pos := "law.go:127", after := #[{ on := 12, ground := Ground.data }, { on := 13, ground := Ground.data }, { on := 11, ground := Ground.guard }], guard := some (11, true) }) (v := ?_) rfl (by kernel_rfl) (by kernel_rfl) (by kernel_rfl) (fun _ _ _ h => h) (Or.inl ⟨by rfl, ?_⟩) (by assumption) ?_
                                rotate_left 1
                                · (intro w' hSw; (try obtain ⟨s0, s1, s2, s3⟩ := hSw); go_simp; try (with_reducible rfl))
                                try simp only [Act.put, List.setIfInBounds_toArray, List.set_cons_zero, List.set_cons_succ]
                                refine wpAnyH_take (i := 15) (oi := { dst := some 163, op := Op.fieldAddr 40 (Operand.tmp 162) 1, type := 0, pos := "law.go:127", after := #[{ on := 14, ground := Ground.data }, { on := 11, ground := Ground.guard }], guard := some (11, true) }) (v := ?_) rfl (by kernel_rfl) (by kernel_rfl) (by kernel_rfl) (fun _ _ _ h => h) (Or.inl ⟨by rfl, ?_⟩) (by assumption) ?_
                                rotate_left 1
                                · (intro w' hSw; (try obtain ⟨s0, s1, s2, s3⟩ := hSw); go_simp; try (with_reducible rfl))
                                try simp only [Act.put, List.setIfInBounds_toArray, List.set_cons_zero, List.set_cons_succ]
                                refine wpAnyH_take (i := 16) (oi := { dst := some 164, op := Op.load 4 (Operand.tmp 163), type := 4, pos := "law.go:127", after := #[{ on := 15, ground := Ground.data }, { on := 11, ground := Ground.guard }], guard := some (11, true) }) (v := ?_) rfl (by kernel_rfl) (by kernel_rfl) (by kernel_rfl) (fun _ _ _ h => h) (Or.inl ⟨by rfl, ?_⟩) (by assumption) ?_
                                rotate_left 1
                                · (intro w' hSw; (try obtain ⟨s0, s1, s2, s3⟩ := hSw); go_simp; try (with_reducible rfl))
                                try simp only [Act.put, List.setIfInBounds_toArray, List.set_cons_zero, List.set_cons_succ]
                                refine wpAnyH_take (i := 17) (oi := { dst := some 165, op := Op.move (Operand.tmp 164), type := 4, pos := "law.go:127", after := #[{ on := 16, ground := Ground.data }, { on := 11, ground := Ground.chain }, { on := 11, ground := Ground.guard }], guard := some (11, true) }) (v := ?_) rfl (by kernel_rfl) (by kernel_rfl) (by kernel_rfl) (fun _ _ _ h => h) (Or.inl ⟨by rfl, ?_⟩) (by assumption) ?_
                                rotate_left 1
                                · (intro w' hSw; (try obtain ⟨s0, s1, s2, s3⟩ := hSw); go_simp; try (with_reducible rfl))
                                try simp only [Act.put, List.setIfInBounds_toArray, List.set_cons_zero, List.set_cons_succ]
                                refine wpAnyH_take (i := 18) (oi := { dst := some 166, op := Op.move (Operand.tmp 12), type := 44, pos := "law.go:127", after := #[{ on := 17, ground := Ground.guard }], guard := some (17, false) }) (v := ?_) rfl (by kernel_rfl) (by kernel_rfl) (by kernel_rfl) (fun _ _ _ h => h) (Or.inl ⟨by rfl, ?_⟩) (by assumption) ?_
                                rotate_left 1
                                · (intro w' hSw; (try obtain ⟨s0, s1, s2, s3⟩ := hSw); go_simp; try (with_reducible rfl))
                                try simp only [Act.put, List.setIfInBounds_toArray, List.set_cons_zero, List.set_cons_succ]
                                refine wpAnyH_take (i := 19) (oi := { dst := some 167, op := Op.move (Operand.tmp 13), type := 3, pos := "law.go:127", after := #[{ on := 17, ground := Ground.guard }], guard := some (17, false) }) (v := ?_) rfl (by kernel_rfl) (by kernel_rfl) (by kernel_rfl) (fun _ _ _ h => h) (Or.inl ⟨by rfl, ?_⟩) (by assumption) ?_
                                rotate_left 1
                                · (intro w' hSw; (try obtain ⟨s0, s1, s2, s3⟩ := hSw); go_simp; try (with_reducible rfl))
                                try simp only [Act.put, List.setIfInBounds_toArray, List.set_cons_zero, List.set_cons_succ]
                                refine wpAnyH_take (i := 20) (oi := { dst := some 168, op := Op.indexAddr 44 (Operand.tmp 166) (Operand.tmp 167), type := 0, pos := "law.go:127", after := #[{ on := 18, ground := Ground.data }, { on := 19, ground := Ground.data }, { on := 17, ground := Ground.guard }], guard := some (17, false) }) (v := ?_) rfl (by kernel_rfl) (by kernel_rfl) (by kernel_rfl) (fun _ _ _ h => h) (Or.inl ⟨by rfl, ?_⟩) (by assumption) ?_
                                rotate_left 1
                                · (intro w' hSw; (try obtain ⟨s0, s1, s2, s3⟩ := hSw); go_simp; try (with_reducible rfl))
                                try simp only [Act.put, List.setIfInBounds_toArray, List.set_cons_zero, List.set_cons_succ]
                                refine wpAnyH_take (i := 21) (oi := { dst := some 169, op := Op.fieldAddr 40 (Operand.tmp 168) 1, type := 0, pos := "law.go:127", after := #[{ on := 20, ground := Ground.data }, { on := 17, ground := Ground.guard }], guard := some (17, false) }) (v := ?_) rfl (by kernel_rfl) (by kernel_rfl) (by kernel_rfl) (fun _ _ _ h => h) (Or.inl ⟨by rfl, ?_⟩) (by assumption) ?_
                                rotate_left 1
                                · (intro w' hSw; (try obtain ⟨s0, s1, s2, s3⟩ := hSw); go_simp; try (with_reducible rfl))
                                try simp only [Act.put, List.setIfInBounds_toArray, List.set_cons_zero, List.set_cons_succ]
                                refine wpAnyH_take (i := 22) (oi := { dst := some 170, op := Op.load 4 (Operand.tmp 169), type := 4, pos := "law.go:127", after := #[{ on := 21, ground := Ground.data }, { on := 17, ground := Ground.guard }], guard := some (17, false) }) (v := ?_) rfl (by kernel_rfl) (by kernel_rfl) (by kernel_rfl) (fun _ _ _ h => h) (Or.inl ⟨by rfl, ?_⟩) (by assumption) ?_
                                rotate_left 1
                                · (intro w' hSw; (try obtain ⟨s0, s1, s2, s3⟩ := hSw); go_simp; try (with_reducible rfl))
                                try simp only [Act.put, List.setIfInBounds_toArray, List.set_cons_zero, List.set_cons_succ]
                                refine wpAnyH_take (i := 23) (oi := { dst := some 171, op := Op.pick (Operand.tmp 165) (Operand.const (Value.bool true)) (Operand.tmp 170), type := 4, pos := "law.go:127", after := #[{ on := 17, ground := Ground.data }, { on := 22, ground := Ground.data }, { on := 11, ground := Ground.guard }], guard := some (11, true) }) (v := ?_) rfl (by kernel_rfl) (by kernel_rfl) (by kernel_rfl) (fun _ _ _ h => h) (Or.inl ⟨by rfl, ?_⟩) (by assumption) ?_
                                rotate_left 1
                                · (intro w' hSw; (try obtain ⟨s0, s1, s2, s3⟩ := hSw); go_simp; try (with_reducible rfl))
                                try simp only [Act.put, List.setIfInBounds_toArray, List.set_cons_zero, List.set_cons_succ]
                                refine wpAnyH_take (i := 24) (oi := { dst := some 172, op := Op.pick (Operand.tmp 159) (Operand.tmp 171) (Operand.const (Value.bool false)), type := 4, pos := "law.go:127", after := #[{ on := 11, ground := Ground.data }, { on := 23, ground := Ground.data }], guard := none }) (v := ?_) rfl (by kernel_rfl) (by kernel_rfl) (by kernel_rfl) (fun _ _ _ h => h) (Or.inl ⟨by rfl, ?_⟩) (by assumption) ?_
                                rotate_left 1
                                · (intro w' hSw; (try obtain ⟨s0, s1, s2, s3⟩ := hSw); go_simp; try (with_reducible rfl))
                                try simp only [Act.put, List.setIfInBounds_toArray, List.set_cons_zero, List.set_cons_succ]
                                refine wpAnyH_done (by kernel_rfl) ?_ _
                                clear hHeld x0 x1 y0 y1
                                go_wp2
                                go_roundw
                                case rel => exact ⟨jj + 1, by go_num, HLJ.out, HBT⟩
                                case measure => simp [intOf]; have := HLJ.out; omega
                              · have hne := str_ne hxk
                                clear hsf
                                go_upto_region 32 with fail
                                refine wp_region_held_drew (S := fun w' => w'.cell? ⟨gx, jj * 2, none⟩ = some (.string xk) ∧ w'.cell? ⟨gx, jj * 2 + 1, none⟩ = some (.bool xw) ∧ w'.cell? ⟨gy, k * 2, none⟩ = some (.string yk) ∧ w'.cell? ⟨gy, k * 2 + 1, none⟩ = some (.bool yw)) (by kernel_rfl) ?_ (fun hHeld => ?_)
                                · (try dsimp only); exact ⟨x0, x1, y0, y1⟩
                                refine wpAnyH_take (i := 0) (oi := { dst := some 148, op := Op.move (Operand.tmp 7), type := 44, pos := "law.go:127", after := #[], guard := none }) (v := ?_) rfl (by kernel_rfl) (by kernel_rfl) (by kernel_rfl) (fun _ _ _ h => h) (Or.inl ⟨by rfl, ?_⟩) (by assumption) ?_
                                rotate_left 1
                                · (intro w' hSw; (try obtain ⟨s0, s1, s2, s3⟩ := hSw); go_simp; try (with_reducible rfl))
                                try simp only [Act.put, List.setIfInBounds_toArray, List.set_cons_zero, List.set_cons_succ]
                                refine wpAnyH_take (i := 1) (oi := { dst := some 149, op := Op.move (Operand.tmp 14), type := 3, pos := "law.go:127", after := #[], guard := none }) (v := ?_) rfl (by kernel_rfl) (by kernel_rfl) (by kernel_rfl) (fun _ _ _ h => h) (Or.inl ⟨by rfl, ?_⟩) (by assumption) ?_
                                rotate_left 1
                                · (intro w' hSw; (try obtain ⟨s0, s1, s2, s3⟩ := hSw); go_simp; try (with_reducible rfl))
                                try simp only [Act.put, List.setIfInBounds_toArray, List.set_cons_zero, List.set_cons_succ]
                                refine wpAnyH_take (i := 2) (oi := { dst := some 150, op := Op.indexAddr 44 (Operand.tmp 148) (Operand.tmp 149), type := 0, pos := "law.go:127", after := #[{ on := 0, ground := Ground.data }, { on := 1, ground := Ground.data }], guard := none }) (v := ?_) rfl (by kernel_rfl) (by kernel_rfl) (by kernel_rfl) (fun _ _ _ h => h) (Or.inl ⟨by rfl, ?_⟩) (by assumption) ?_
                                rotate_left 1
                                · (intro w' hSw; (try obtain ⟨s0, s1, s2, s3⟩ := hSw); go_simp; try (with_reducible rfl))
                                try simp only [Act.put, List.setIfInBounds_toArray, List.set_cons_zero, List.set_cons_succ]
                                refine wpAnyH_take (i := 3) (oi := { dst := some 151, op := Op.fieldAddr 40 (Operand.tmp 150) 0, type := 0, pos := "law.go:127", after := #[{ on := 2, ground := Ground.data }], guard := none }) (v := ?_) rfl (by kernel_rfl) (by kernel_rfl) (by kernel_rfl) (fun _ _ _ h => h) (Or.inl ⟨by rfl, ?_⟩) (by assumption) ?_
                                rotate_left 1
                                · (intro w' hSw; (try obtain ⟨s0, s1, s2, s3⟩ := hSw); go_simp; try (with_reducible rfl))
                                try simp only [Act.put, List.setIfInBounds_toArray, List.set_cons_zero, List.set_cons_succ]
                                refine wpAnyH_take (i := 4) (oi := { dst := some 152, op := Op.load 9 (Operand.tmp 151), type := 9, pos := "law.go:127", after := #[{ on := 3, ground := Ground.data }], guard := none }) (v := ?_) rfl (by kernel_rfl) (by kernel_rfl) (by kernel_rfl) (fun _ _ _ h => h) (Or.inl ⟨by rfl, ?_⟩) (by assumption) ?_
                                rotate_left 1
                                · (intro w' hSw; (try obtain ⟨s0, s1, s2, s3⟩ := hSw); go_simp; try (with_reducible rfl))
                                try simp only [Act.put, List.setIfInBounds_toArray, List.set_cons_zero, List.set_cons_succ]
                                refine wpAnyH_take (i := 5) (oi := { dst := some 153, op := Op.move (Operand.tmp 12), type := 44, pos := "law.go:127", after := #[], guard := none }) (v := ?_) rfl (by kernel_rfl) (by kernel_rfl) (by kernel_rfl) (fun _ _ _ h => h) (Or.inl ⟨by rfl, ?_⟩) (by assumption) ?_
                                rotate_left 1
                                · (intro w' hSw; (try obtain ⟨s0, s1, s2, s3⟩ := hSw); go_simp; try (with_reducible rfl))
                                try simp only [Act.put, List.setIfInBounds_toArray, List.set_cons_zero, List.set_cons_succ]
                                refine wpAnyH_take (i := 6) (oi := { dst := some 154, op := Op.move (Operand.tmp 13), type := 3, pos := "law.go:127", after := #[], guard := none }) (v := ?_) rfl (by kernel_rfl) (by kernel_rfl) (by kernel_rfl) (fun _ _ _ h => h) (Or.inl ⟨by rfl, ?_⟩) (by assumption) ?_
                                rotate_left 1
                                · (intro w' hSw; (try obtain ⟨s0, s1, s2, s3⟩ := hSw); go_simp; try (with_reducible rfl))
                                try simp only [Act.put, List.setIfInBounds_toArray, List.set_cons_zero, List.set_cons_succ]
                                refine wpAnyH_take (i := 7) (oi := { dst := some 155, op := Op.indexAddr 44 (Operand.tmp 153) (Operand.tmp 154), type := 0, pos := "law.go:127", after := #[{ on := 5, ground := Ground.data }, { on := 6, ground := Ground.data }], guard := none }) (v := ?_) rfl (by kernel_rfl) (by kernel_rfl) (by kernel_rfl) (fun _ _ _ h => h) (Or.inl ⟨by rfl, ?_⟩) (by assumption) ?_
                                rotate_left 1
                                · (intro w' hSw; (try obtain ⟨s0, s1, s2, s3⟩ := hSw); go_simp; try (with_reducible rfl))
                                try simp only [Act.put, List.setIfInBounds_toArray, List.set_cons_zero, List.set_cons_succ]
                                refine wpAnyH_take (i := 8) (oi := { dst := some 156, op := Op.fieldAddr 40 (Operand.tmp 155) 0, type := 0, pos := "law.go:127", after := #[{ on := 7, ground := Ground.data }], guard := none }) (v := ?_) rfl (by kernel_rfl) (by kernel_rfl) (by kernel_rfl) (fun _ _ _ h => h) (Or.inl ⟨by rfl, ?_⟩) (by assumption) ?_
                                rotate_left 1
                                · (intro w' hSw; (try obtain ⟨s0, s1, s2, s3⟩ := hSw); go_simp; try (with_reducible rfl))
                                try simp only [Act.put, List.setIfInBounds_toArray, List.set_cons_zero, List.set_cons_succ]
                                refine wpAnyH_take (i := 9) (oi := { dst := some 157, op := Op.load 9 (Operand.tmp 156), type := 9, pos := "law.go:127", after := #[{ on := 8, ground := Ground.data }], guard := none }) (v := ?_) rfl (by kernel_rfl) (by kernel_rfl) (by kernel_rfl) (fun _ _ _ h => h) (Or.inl ⟨by rfl, ?_⟩) (by assumption) ?_
                                rotate_left 1
                                · (intro w' hSw; (try obtain ⟨s0, s1, s2, s3⟩ := hSw); go_simp; try (with_reducible rfl))
                                try simp only [Act.put, List.setIfInBounds_toArray, List.set_cons_zero, List.set_cons_succ]
                                refine wpAnyH_take (i := 10) (oi := { dst := some 158, op := Op.binOp BinOp.eql 9 (Operand.tmp 152) (Operand.tmp 157) 9, type := 4, pos := "law.go:127", after := #[{ on := 4, ground := Ground.data }, { on := 9, ground := Ground.data }], guard := none }) (v := ?_) rfl (by kernel_rfl) (by kernel_rfl) (by kernel_rfl) (fun _ _ _ h => h) (Or.inl ⟨by rfl, ?_⟩) (by assumption) ?_
                                rotate_left 1
                                · (intro w' hSw; (try obtain ⟨s0, s1, s2, s3⟩ := hSw); go_simp; try (with_reducible rfl))
                                try simp only [Act.put, List.setIfInBounds_toArray, List.set_cons_zero, List.set_cons_succ]
                                refine wpAnyH_take (i := 11) (oi := { dst := some 159, op := Op.move (Operand.tmp 158), type := 4, pos := "law.go:127", after := #[{ on := 10, ground := Ground.data }], guard := none }) (v := ?_) rfl (by kernel_rfl) (by kernel_rfl) (by kernel_rfl) (fun _ _ _ h => h) (Or.inl ⟨by rfl, ?_⟩) (by assumption) ?_
                                rotate_left 1
                                · (intro w' hSw; (try obtain ⟨s0, s1, s2, s3⟩ := hSw); go_simp; try (with_reducible rfl))
                                try simp only [Act.put, List.setIfInBounds_toArray, List.set_cons_zero, List.set_cons_succ]
                                refine wpAnyH_take (i := 12) (oi := { dst := some 160, op := Op.move (Operand.tmp 7), type := 44, pos := "law.go:127", after := #[{ on := 11, ground := Ground.guard }], guard := some (11, true) }) (v := undef) rfl (by kernel_rfl) (by kernel_rfl) (by kernel_rfl) (fun _ _ _ h => h) (Or.inr ⟨by rfl, rfl⟩) (by assumption) ?_
                                try simp only [Act.put, List.setIfInBounds_toArray, List.set_cons_zero, List.set_cons_succ]
                                refine wpAnyH_take (i := 13) (oi := { dst := some 161, op := Op.move (Operand.tmp 14), type := 3, pos := "law.go:127", after := #[{ on := 11, ground := Ground.guard }], guard := some (11, true) }) (v := undef) rfl (by kernel_rfl) (by kernel_rfl) (by kernel_rfl) (fun _ _ _ h => h) (Or.inr ⟨by rfl, rfl⟩) (by assumption) ?_
                                try simp only [Act.put, List.setIfInBounds_toArray, List.set_cons_zero, List.set_cons_succ]
                                refine wpAnyH_take (i := 14) (oi := { dst := some 162, op := Op.indexAddr 44 (Operand.tmp 160) (Operand.tmp 161), type := 0, pos := "law.go:127", after := #[{ on := 12, ground := Ground.data }, { on := 13, ground := Ground.data }, { on := 11, ground := Ground.guard }], guard := some (11, true) }) (v := undef) rfl (by kernel_rfl) (by kernel_rfl) (by kernel_rfl) (fun _ _ _ h => h) (Or.inr ⟨by rfl, rfl⟩) (by assumption) ?_
                                try simp only [Act.put, List.setIfInBounds_toArray, List.set_cons_zero, List.set_cons_succ]
                                refine wpAnyH_take (i := 15) (oi := { dst := some 163, op := Op.fieldAddr 40 (Operand.tmp 162) 1, type := 0, pos := "law.go:127", after := #[{ on := 14, ground := Ground.data }, { on := 11, ground := Ground.guard }], guard := some (11, true) }) (v := undef) rfl (by kernel_rfl) (by kernel_rfl) (by kernel_rfl) (fun _ _ _ h => h) (Or.inr ⟨by rfl, rfl⟩) (by assumption) ?_
                                try simp only [Act.put, List.setIfInBounds_toArray, List.set_cons_zero, List.set_cons_succ]
                                refine wpAnyH_take (i := 16) (oi := { dst := some 164, op := Op.load 4 (Operand.tmp 163), type := 4, pos := "law.go:127", after := #[{ on := 15, ground := Ground.data }, { on := 11, ground := Ground.guard }], guard := some (11, true) }) (v := undef) rfl (by kernel_rfl) (by kernel_rfl) (by kernel_rfl) (fun _ _ _ h => h) (Or.inr ⟨by rfl, rfl⟩) (by assumption) ?_
                                try simp only [Act.put, List.setIfInBounds_toArray, List.set_cons_zero, List.set_cons_succ]
                                refine wpAnyH_take (i := 17) (oi := { dst := some 165, op := Op.move (Operand.tmp 164), type := 4, pos := "law.go:127", after := #[{ on := 16, ground := Ground.data }, { on := 11, ground := Ground.chain }, { on := 11, ground := Ground.guard }], guard := some (11, true) }) (v := undef) rfl (by kernel_rfl) (by kernel_rfl) (by kernel_rfl) (fun _ _ _ h => h) (Or.inr ⟨by rfl, rfl⟩) (by assumption) ?_
                                try simp only [Act.put, List.setIfInBounds_toArray, List.set_cons_zero, List.set_cons_succ]
                                refine wpAnyH_take (i := 18) (oi := { dst := some 166, op := Op.move (Operand.tmp 12), type := 44, pos := "law.go:127", after := #[{ on := 17, ground := Ground.guard }], guard := some (17, false) }) (v := undef) rfl (by kernel_rfl) (by kernel_rfl) (by kernel_rfl) (fun _ _ _ h => h) (Or.inr ⟨by rfl, rfl⟩) (by assumption) ?_
                                try simp only [Act.put, List.setIfInBounds_toArray, List.set_cons_zero, List.set_cons_succ]
                                refine wpAnyH_take (i := 19) (oi := { dst := some 167, op := Op.move (Operand.tmp 13), type := 3, pos := "law.go:127", after := #[{ on := 17, ground := Ground.guard }], guard := some (17, false) }) (v := undef) rfl (by kernel_rfl) (by kernel_rfl) (by kernel_rfl) (fun _ _ _ h => h) (Or.inr ⟨by rfl, rfl⟩) (by assumption) ?_
                                try simp only [Act.put, List.setIfInBounds_toArray, List.set_cons_zero, List.set_cons_succ]
                                refine wpAnyH_take (i := 20) (oi := { dst := some 168, op := Op.indexAddr 44 (Operand.tmp 166) (Operand.tmp 167), type := 0, pos := "law.go:127", after := #[{ on := 18, ground := Ground.data }, { on := 19, ground := Ground.data }, { on := 17, ground := Ground.guard }], guard := some (17, false) }) (v := undef) rfl (by kernel_rfl) (by kernel_rfl) (by kernel_rfl) (fun _ _ _ h => h) (Or.inr ⟨by rfl, rfl⟩) (by assumption) ?_
                                try simp only [Act.put, List.setIfInBounds_toArray, List.set_cons_zero, List.set_cons_succ]
                                refine wpAnyH_take (i := 21) (oi := { dst := some 169, op := Op.fieldAddr 40 (Operand.tmp 168) 1, type := 0, pos := "law.go:127", after := #[{ on := 20, ground := Ground.data }, { on := 17, ground := Ground.guard }], guard := some (17, false) }) (v := undef) rfl (by kernel_rfl) (by kernel_rfl) (by kernel_rfl) (fun _ _ _ h => h) (Or.inr ⟨by rfl, rfl⟩) (by assumption) ?_
                                try simp only [Act.put, List.setIfInBounds_toArray, List.set_cons_zero, List.set_cons_succ]
                                refine wpAnyH_take (i := 22) (oi := { dst := some 170, op := Op.load 4 (Operand.tmp 169), type := 4, pos := "law.go:127", after := #[{ on := 21, ground := Ground.data }, { on := 17, ground := Ground.guard }], guard := some (17, false) }) (v := undef) rfl (by kernel_rfl) (by kernel_rfl) (by kernel_rfl) (fun _ _ _ h => h) (Or.inr ⟨by rfl, rfl⟩) (by assumption) ?_
                                try simp only [Act.put, List.setIfInBounds_toArray, List.set_cons_zero, List.set_cons_succ]
                                refine wpAnyH_take (i := 23) (oi := { dst := some 171, op := Op.pick (Operand.tmp 165) (Operand.const (Value.bool true)) (Operand.tmp 170), type := 4, pos := "law.go:127", after := #[{ on := 17, ground := Ground.data }, { on := 22, ground := Ground.data }, { on := 11, ground := Ground.guard }], guard := some (11, true) }) (v := undef) rfl (by kernel_rfl) (by kernel_rfl) (by kernel_rfl) (fun _ _ _ h => h) (Or.inr ⟨by rfl, rfl⟩) (by assumption) ?_
                                try simp only [Act.put, List.setIfInBounds_toArray, List.set_cons_zero, List.set_cons_succ]
                                refine wpAnyH_take (i := 24) (oi := { dst := some 172, op := Op.pick (Operand.tmp 159) (Operand.tmp 171) (Operand.const (Value.bool false)), type := 4, pos := "law.go:127", after := #[{ on := 11, ground := Ground.data }, { on := 23, ground := Ground.data }], guard := none }) (v := ?_) rfl (by kernel_rfl) (by kernel_rfl) (by kernel_rfl) (fun _ _ _ h => h) (Or.inl ⟨by rfl, ?_⟩) (by assumption) ?_
                                rotate_left 1
                                · (intro w' hSw; (try obtain ⟨s0, s1, s2, s3⟩ := hSw); go_simp; try (with_reducible rfl))
                                try simp only [Act.put, List.setIfInBounds_toArray, List.set_cons_zero, List.set_cons_succ]
                                refine wpAnyH_done (by kernel_rfl) ?_ _
                                clear hHeld x0 x1 y0 y1
                                go_wp2
                                go_roundw
                                case rel => exact ⟨jj + 1, by go_num, HLJ.out, HBT⟩
                                case measure => simp [intOf]; have := HLJ.out; omega
                          · obtain rfl : jj = lx.length := by omega
                            go_wp2
                            go_roundw
                            case rel => exact ⟨k + 1, q2, rfl, by go_num, HLK.out, hbt, HQ2⟩
                            case measure => simp [intOf]; have := HLK.out; omega
                    · obtain rfl : k = ly.length := by omega
                      have HQ3 : Hid ((bw = false ∨ ∃ b', b' < b + 1 ∧ s1.hd (os2.getD b' 0) ck ≠ none) → q1 = true) := fun h => by
                        rcases h with h | ⟨b', h, h2⟩
                        · exact hq1.out (.inl (hq.out (.inl h)))
                        · by_cases e : b' = b
                          · subst e
                            rw [HOBE.out] at h2
                            obtain ⟨k', hk', e2⟩ := FND.out h2
                            exact hq1.out (.inr ⟨k', hk', hk', e2⟩)
                          · exact hq1.out (.inl (hq.out (.inr ⟨b', by omega, h2⟩)))
                      have HBW2 := Lib.hid (HBA.out.trans (hbu.out.mono HBA.out.size))
                      clear hq1 hbu
                      go_wp2
                      go_roundw
                      case rel => exact ⟨b + 1, q1, rfl, by go_num, HLB.out, HBW2, HQ3⟩
                      case measure => simp [intOf]; have := HLB.out; omega
                · obtain rfl : b = os2.length := by omega
                  have hqt : q = true := hq.out (by
                    cases bw with
                    | false => exact .inl rfl
                    | true =>
                      obtain ⟨w, hw, hwk⟩ := HBW.out rfl
                      obtain ⟨o', ho', hh⟩ := waits_held SE.out.a.t SE.out.a.a.g SE.out.dm hw
                      obtain ⟨b', hb', e⟩ := List.mem_iff_getElem.1 ho'
                      refine .inr ⟨b', hb', ?_⟩
                      rw [List.getD_eq_getElem?_getD, List.getElem?_eq_getElem hb', ← hwk]
                      show s1.hd os2[b'] _ ≠ none
                      rw [e]; exact hh)
                  subst hqt
                  have HBF := Lib.hid (HB9.out.trans (hbz.out.mono HB9.out.size))
                  clear hq hbz
                  go_wp2
                  go_roundw
                  case rel => exact ⟨a + 1, by go_num, HLA.out, HBF⟩
                  case measure => simp [intOf]; have := HLA.out; omega
            · obtain rfl : a = os2.length := by omega
              have SF := Lib.hid (SE.out.below hby.out)
              clear hby SE
              go_wp2
              go_roundw
              case rel => exact ⟨j + 1, _, _, _, by go_num, HLT.out, SF⟩
              case measure => simp [intOf]; have := HLT.out; omega
      · obtain rfl : j = l.length := by omega
        have hol : os.length ≤ 60 := by have h1 := HOL.out; have h2 := HGR.out.1; omega
        have hoi : (os.length : Int) ≤ 60 := by omega
        have WFO := Lib.hid sf.out.wf
        have HLL := Lib.hid HGR.out.1
        have D0 : Hid (Dm s (os.drop 0)) := DM.out
        clear sf DM HOL hlt hj
        go_wp2
        go_loopw [15] (fun i wz => ∃ (t n' : Nat) (s' : Lk), i = .int .i64 (t : Int) ∧ t ≤ os.length ∧ Hid (AcW w0 wz T ml mh mw n' s' (l.length + t) (Value.slice aO os.length cO)) ∧ Hid (∀ g, (Value.slice aO os.length cO).ownBlock = some g → wz.heap[g]? = wr.heap[g]?) ∧ Hid (Dm s' (os.drop t))) (fun i _ => os.length - (intOf i).toNat)
        case atStart => exact ⟨0, n, s, rfl, Nat.zero_le _, st, fun _ _ => rfl, D0⟩
        case round =>
          obtain ⟨t, n2, s2, rfl, ht, sz, hv, hd⟩ := hrel
          rename World => wz
          clear D0 st
          by_cases hlt : t < os.length
          · obtain ⟨bo, oo, hao, co⟩ := (HIO.out wz hv.out).cell hlt
            subst hao
            have hdr : os.drop t = os[t] :: os.drop (t + 1) := List.drop_eq_getElem_cons hlt
            have hgd : os.getD t 0 = os[t] := by rw [List.getD_eq_getElem?_getD, List.getElem?_eq_getElem hlt]; rfl
            obtain ⟨ob, hob⟩ : ∃ ob, os[t] = ob := ⟨_, rfl⟩
            have hwb : (Lit.int .i64 ob).wf = true := by rw [← hob]; exact WFO.out _ (List.getElem_mem hlt)
            rw [hgd, hob] at co
            rw [hob] at hdr
            have HDR := Lib.hid hdr
            have hba : Below wz.heap.size wz (wz.alloc (.cells #[.int .i64 ob] 3)) := (Below.refl _ _).alloc (Nat.le_refl _) _
            have SA := Lib.hid (sz.out.below hba)
            have KF := Lib.hid (free_ac SA.out.1 (by have := HLL.out; omega) (os := [ob]) (cap := 1) (sz.out.t.nt_new (Nat.le_refl _)) (fun e => by
              obtain ⟨_, i, u, hu⟩ := sz.out.pv _ e
              have := block_lt hu
              simp only at this
              omega) (fun i hi => by
              have : i = 0 := by simpa using hi
              subst this
              exact new_cell rfl rfl) (by simp) (fun z hz => by rw [List.mem_singleton.1 hz]; exact hwb) (by simp))
            change Hid (Calls _ _ #[_, .slice _ 1 _] _ _) at KF
            have HLT := Lib.hid hlt
            clear hdr hgd hba hob
            go_wp2_with fail
            refine KF.out.mono ?_
            rintro e w5 ⟨_, _, _, n5, s5, rfl, _, _, hp5, _, _, ha5, hv5⟩
            have S5 := Lib.hid ha5
            have V5 : Hid (∀ g, (Value.slice (some ⟨bo, oo, none⟩) os.length cO).ownBlock = some g → w5.heap[g]? = wr.heap[g]?) := fun g e => (hv5 g e).trans ((SA.out.2 g e).trans (hv.out g e))
            have D5 : Hid (Dm s5 (os.drop (t + 1))) := Dm.freed (o := ob) (HDR.out ▸ hd.out) SA.out.1.a hp5
            clear KF hp5 ha5 hv5 SA sz hv hd co
            go_wp2
            go_roundw
            case rel => exact ⟨t + 1, _, _, by go_num, HLT.out, S5, V5, D5⟩
            case measure => simp [intOf]; have := HLT.out; omega
          · obtain rfl : t = os.length := by omega
            have hn := sz.out.a.nb
            have hd0 : Dm s2 [] := by have h := hd.out; rw [List.drop_length] at h; exact h
            have HNW := Lib.hid (fun k => hd0.none_waits sz.out.a.g.c k)
            have KE := Lib.hid (edges_all sz.out.t sz.out.a.g.c (by have := HLL.out; omega) (fun k => by have := sz.out.a.lens k; have := HLL.out; omega))
            have HBZ := Lib.hid sz.out.bw
            have hsz := sz.out.t.lts
            have HT := Lib.hid sz.out.t
            clear hd hd0 hv sz
            go_wp2_with fail
            refine KE.out.mono ?_
            rintro e w5 ⟨vE, kl, rfl, hrE, hkl, hb5⟩
            have hk0 : kl = [] := List.eq_nil_iff_forall_not_mem.2 (fun k hk => HNW.out k ((hkl k).1 hk))
            have hk1 : keysL kl = [] := List.length_eq_zero_iff.1 (by have := keysL_len kl; rw [hk0] at this ⊢; simpa using this)
            rw [hk1] at hrE
            obtain ⟨aE, cE, hvE, _⟩ := hrE.form
            have hvE : vE = .slice aE 0 cE := hvE
            subst hvE
            have HBE := Lib.hid (HB0.out.trans ((HBZ.out.trans (hb5.mono HBZ.out.size)).mono HB0.out.size))
            clear KE hrE hkl hb5 hk0 hk1 hsz HT
            go_wp2
            go_ret
            exact ⟨rfl, HBE.out⟩
end Go.Proofs.Ytgabdlnbencglaa
