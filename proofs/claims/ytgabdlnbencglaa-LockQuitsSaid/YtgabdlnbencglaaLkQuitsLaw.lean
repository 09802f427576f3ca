/-
  THE WALK OF law 14's LockQuits.
-/
import Derived.Test.YtgabdlnbencglaaLkQuitsP
import Derived.Test.YtgabdlnbencglaaLkAwake
namespace Go.Proofs.Ytgabdlnbencglaa
open Go.RowKit
theorem great_no {l : List La} (h : greatL l = false) : l.length ≤ 60 ∧ ∀ x, x ∈ l → x.key.size ≤ 100 ∧ x.more.length ≤ 10 := by
  unfold greatL at h
  rw [Bool.or_eq_false_iff] at h
  refine ⟨by simpa using h.1, fun x hx => ?_⟩
  have h2 := List.any_eq_false.1 h.2 x hx
  unfold bigLa at h2
  simpa using h2
set_option maxRecDepth 100000 in
set_option maxHeartbeats 8000000 in
theorem lockQuits_walk (la : Option Addr) (l : List La) (lc : Nat) (o : Int) (key : ByteArray) (b : Bool) (W : World) (hl : l.length ≤ maxLen) (hm : LasAt W la l) (hwf : (Lit.int .i64 o).wf = true) :
    Calls Try.prog 6 #[.slice la l.length lc, .int .i64 o, .string key, .bool b] W fun e W' => e = .returned (.bool true) ∧ Below W.heap.size W W' := by
  have KG := Lib.hid (great14_any (c := lc) hl hm)
  have KA := Lib.hid (fun W => awake14_any W)
  have KN := Lib.hid (fun W => new_table W)
  have HM := Lib.hid hm
  clear hm
  cases hg : greatL l with
  | true =>
    rw [hg] at KG
    go_enter Try.func6, Try.ntmps6
    go_wp2_with fail
    refine KG.out.mono ?_
    rintro e w1 ⟨rfl, hb1⟩
    have HB1 := Lib.hid hb1
    clear KG KN HM hb1
    go_wp2_with fail
    refine (KA.out _).mono ?_
    rintro e w2 ⟨rfl, hb2⟩
    have HB2 := Lib.hid (HB1.out.trans (hb2.mono HB1.out.size))
    clear hb2 KA
    go_wp2
    go_ret
    exact ⟨rfl, HB2.out⟩
  | false =>
  rw [hg] at KG
  by_cases h100 : 100 < key.size
  · have h1 : (100 : Int) < (key.size : Int) := by omega
    go_enter Try.func6, Try.ntmps6
    go_wp2_with fail
    refine KG.out.mono ?_
    rintro e w1 ⟨rfl, hb1⟩
    have HB1 := Lib.hid hb1
    clear KG KN HM hb1
    go_wp2_with fail
    refine (KA.out _).mono ?_
    rintro e w2 ⟨rfl, hb2⟩
    have HB2 := Lib.hid (HB1.out.trans (hb2.mono HB1.out.size))
    clear hb2 KA
    go_wp2
    go_ret
    exact ⟨rfl, HB2.out⟩
  · have h1 : (key.size : Int) ≤ 100 := by omega
    have hks : key.size ≤ 100 := by omega
    have HGR := Lib.hid (great_no hg)
    have HKS := Lib.hid hks
    clear hg
    go_enter Try.func6, Try.ntmps6
    go_wp2_with fail
    refine KG.out.mono ?_
    rintro e w1 ⟨rfl, hb1⟩
    have HB1 := Lib.hid hb1
    clear KG hb1
    go_wp2_with fail
    refine (KA.out _).mono ?_
    rintro e w0 ⟨rfl, hb2⟩
    have HB0 := Lib.hid (HB1.out.trans (hb2.mono HB1.out.size))
    clear hb2 KA HB1
    go_wp2_with fail
    refine (KN.out _).mono ?_
    rintro e w3 ⟨T, ml, mh, mw, rfl, h3, b3⟩
    have S0 : Hid (AcW w0 w3 T ml mh mw 0 Lk.none 0 (.slice none 0 0)) := ⟨h3, ac_none, b3, fun g e => by cases e⟩
    have hli : (l.length : Int) ≤ 60 := by have := HGR.out.1; omega
    clear KN h3 b3
    go_wp2
    go_loopw [10] (fun i wr => ∃ (j n : Nat) (s : Lk), i = .int .i64 (j : Int) ∧ j ≤ l.length ∧ Hid (AcW w0 wr T ml mh mw n s j (.slice none 0 0))) (fun i _ => l.length - (intOf i).toNat)
    case atStart => exact ⟨0, 0, _, rfl, Nat.zero_le _, S0⟩
    case round =>
      obtain ⟨j, n, s, rfl, hj, st⟩ := hrel
      rename World => wr
      clear S0
      by_cases hlt : j < l.length
      · skip
        obtain ⟨b2, off2, rfl, k0, k1, k2, k3, k4, hok⟩ := (HM.out.below (HB0.out.trans (st.out.bw.mono HB0.out.size))).cells hlt
        have HLT := Lib.hid hlt
        have hbig := HGR.out.2 l[j] (List.getElem_mem hlt)
        have hj60 : j ≤ 60 := Nat.le_trans (Nat.le_of_lt hlt) HGR.out.1
        generalize l[j] = x at *
        obtain ⟨kd, hkd⟩ : ∃ kd, x.kind = kd := ⟨_, rfl⟩
        rw [hkd, Nat.add_zero] at k0
        have hbd : Below wr.heap.size wr wr.drew := (Below.refl _ _).drew
        have d1 := keep_cell hbd k1
        have d2 := keep_cell hbd k2
        have d3 := keep_cell hbd k3
        have d4 := keep_cell hbd k4
        have HOK := Lib.hid (hok.below hbd)
        have SD := Lib.hid (st.out.below hbd).1
        have SV := Lib.hid (st.out.below hbd).2
        have how := hok.ow
        clear hok
        by_cases hk0 : kd = 0
        · subst hk0
          have KK := Lib.hid (ask_ac (b := x.wr) SD.out (by omega) hbig.1 how)
          clear hbd hkd how
          go_upto_region 10 with fail
          go_region_law ((go_simp; go_at_call 12; (with_reducible refine KK.out.mono ?_); rintro e w5 ⟨c5, s5, rfl, hr5, ha5, hv5⟩; have S5 := Lib.hid ha5; have V5 : Hid (∀ g, ((Value.slice none 0 0)).ownBlock = some g → w5.heap[g]? = wr.heap[g]?) := (fun g e => (hv5 g e).trans (SV.out g e)); clear ha5 hr5 hv5; go_simp))
          all_goals clear KK SD SV d1 d2 d3 d4 st HOK
          all_goals
            go_wp2
            go_roundw
            case rel => exact ⟨j + 1, _, _, by go_num, HLT.out, S5⟩
            case measure => simp [intOf]; have := HLT.out; omega
        · by_cases hk1 : kd = 1
          · subst hk1
            have KK := Lib.hid (quit_ac st.out (o := x.own) (by omega) how)
            clear hbd hkd how SD SV d1 d2 d3 d4 HOK
            go_wp2_with fail
            refine KK.out.mono ?_
            rintro e w5 (⟨_, rfl, rfl⟩ | ⟨_, _, _, n5, s5, _, rfl, _, _, _, _, ha5, hv5⟩)
            · have S5 : Hid (AcW w0 wr T ml mh mw n s (j + 1) (Value.slice none 0 0)) := ⟨st.out.t, st.out.a.mono, st.out.bw, st.out.pv⟩
              have V5 : Hid (∀ g, ((Value.slice none 0 0)).ownBlock = some g → wr.heap[g]? = wr.heap[g]?) := fun _ _ => rfl
              clear KK st
              go_wp2
              go_roundw
              case rel => exact ⟨j + 1, _, _, by go_num, HLT.out, S5⟩
              case measure => simp [intOf]; have := HLT.out; omega
            · have S5 := Lib.hid ha5
              have V5 := Lib.hid hv5
              clear KK ha5 hv5 st
              go_wp2
              go_roundw
              case rel => exact ⟨j + 1, _, _, by go_num, HLT.out, S5⟩
              case measure => simp [intOf]; have := HLT.out; omega
          · have hba : Below wr.drew.heap.size wr.drew (wr.drew.alloc (.cells #[.int .i64 x.own] 3)) := (Below.refl _ _).alloc (Nat.le_refl _) _
            have e4 := keep_cell hba d4
            have e5 : (wr.alloc (.cells #[.int .i64 x.own] 3)).drew.cell? ⟨b2, off2 + j * 5 + 4, none⟩ = some (.slice x.ma x.more.length x.mc) := e4
            have HMO := Lib.hid (HOK.out.m.below hba)
            have HR0 : Hid (RowI (wr.drew.alloc (.cells #[.int .i64 x.own] 3)) wr.heap.size (.slice (some ⟨wr.drew.heap.size, 0, none⟩) 1 1) [x.own]) := World.ownsRow_lit wr.drew #[.int .i64 x.own] 1 (Nat.le_refl _) (by decide) rfl
            have HBA := Lib.hid (hbd.trans (hba.mono (Nat.le_refl _)))
            have hsz : wr.heap.size ≤ (wr.drew.alloc (.cells #[.int .i64 x.own] 3)).heap.size := HBA.out.size
            have hlen : [x.own].length + x.more.length ≤ 1000000 := by have := hbig.2; simp; omega
            have HWFO : Hid (∀ z, z ∈ [x.own] ++ x.more → (Lit.int .i64 z).wf = true) := fun z hz => (List.mem_append.1 hz).elim (fun c => by rw [List.mem_singleton.1 c]; exact how) (fun c => HOK.out.mw z c)
            have HMLN : Hid (([x.own] ++ x.more).length ≤ 12) := by have := hbig.2; show _ ≤ 12; simp; omega
            have HVN : Hid (∀ g, ((Value.slice none 0 0)).ownBlock = some g → g < wr.heap.size) := fun g e => by
              obtain ⟨_, i, u, hu⟩ := st.out.pv g e
              exact block_lt (p := ⟨g, i, none⟩) hu
            clear hba hbd hkd how d1 d2 d3
            go_upto_region 8 with fail
            go_region_law ((first
              | (go_simp; go_at_call 14; (with_reducible refine KF.out.mono ?_); rintro e w5 ⟨_, _, _, n5, s5, rfl, _, _, _, _, _, ha5, hv5⟩; have S5 := Lib.hid ha5; have V5 : Hid (∀ g, ((Value.slice none 0 0)).ownBlock = some g → w5.heap[g]? = wr.heap[g]?) := (fun g e => (hv5 g e).trans (S4.out.2 g e)); clear ha5 hv5; go_simp)
              | (refine step_append_ii (by rfl) _ _ (by rfl) wr.heap.size (.slice (some ⟨wr.drew.heap.size, 0, none⟩) 1 1) [x.own] x.ma x.more x.mc (by rfl) HR0.out (by rfl) HMO.out hlen hsz ?_; intro v4 w4 hr4 hg4 ho4; have hb4 := HBA.out.grown hg4 hsz (fun g e => (World.ownsRow.lt HR0.out g e).1); have S4 := Lib.hid (st.out.below hb4); obtain ⟨g4, c4, rfl, hB4, hc4⟩ := hr4.cells (by simp); have KF := Lib.hid (free_ac S4.out.1 (by omega) (cap := c4) (st.out.t.nt_new hB4) (fun e => by have := HVN.out g4 e; omega) hc4 (by simp) HWFO.out HMLN.out); change Hid (Calls _ _ #[_, .slice _ (x.more.length + 1) _] _ _) at KF; clear hr4 hg4 ho4 hb4 hc4)))
            all_goals clear KF S4 HR0 HMO HBA HWFO HMLN HVN SD SV d4 e4 e5 st HOK hsz hlen
            all_goals
              go_wp2
              go_roundw
              case rel => exact ⟨j + 1, _, _, by go_num, HLT.out, S5⟩
              case measure => simp [intOf]; have := HLT.out; omega

      · obtain rfl : j = l.length := by omega
        have hjl := HGR.out.1
        have hn := st.out.a.nb
        have KE := Lib.hid (edges_all st.out.t st.out.a.g.c (by omega) (fun k => by have := st.out.a.lens k; omega))
        have HJL := Lib.hid hjl
        clear hjl hlt
        go_wp2_with fail
        refine KE.out.mono ?_
        rintro e w2 ⟨vE, kl, rfl, hrE, hkl, hb2⟩
        have S2 := Lib.hid (st.out.below hb2).1
        have HRE := Lib.hid hrE
        have HKL := Lib.hid hkl
        have KL := Lib.hid (line_all S2.out.t (k := key) (by have := HKS.out; omega) (by have := S2.out.a.lens key; have := HJL.out; omega))
        have HSZ2 := Lib.hid hb2.size
        clear KE hrE hkl hb2
        go_wp2_with fail
        refine KL.out.mono ?_
        rintro e w3 ⟨vL, rfl, hrL, hL0, hb3⟩
        have S3 := Lib.hid (S2.out.below hb3).1
        have HRL := Lib.hid hrL
        have HL0 := Lib.hid hL0
        have HRE3 : Hid (RowE w3 wr.heap.size vE ((keysL kl).flatMap (edOf s))) := ownsRow_of HRE.out (fun g e => hb3.block g (World.ownsRow.lt HRE.out g e).2)
        have KH := Lib.hid (holds_any S3.out.t S3.out.a.g.c (o := o) hwf (by omega))
        clear KL hrL hL0 hb3
        go_wp2_with fail
        refine KH.out.mono ?_
        rintro e w4 ⟨vH, lH, ksH, rfl, hrH, _, _, hpH, hnH, hkH, hb4⟩
        have S4 := Lib.hid (S3.out.below hb4).1
        have HRL4 : Hid (RowI w4 w2.heap.size vL (lineO s key)) := ownsRow_of HRL.out (fun g e => hb4.block g (World.ownsRow.lt HRL.out g e).2)
        have HRE4 : Hid (RowE w4 wr.heap.size vE ((keysL kl).flatMap (edOf s))) := ownsRow_of HRE3.out (fun g e => hb4.block g (World.ownsRow.lt HRE3.out g e).2)
        have HH : Hid (lH.length = ksH.length ∧ ksH.Nodup ∧ ∀ k, k ∈ ksH ↔ s.hd o k ≠ none) := ⟨by rw [hpH.length_eq, List.length_map], hnH, hkH⟩
        obtain ⟨aH, cH, rfl⟩ := hrH.form
        clear hrH hpH hnH hkH hb4 KH HRE3
        obtain ⟨uE, hE1, hE2⟩ : ∃ u : Value, (∀ g, u.ownBlock = some g → vE.ownBlock = some g ∧ 0 < ((keysL kl).flatMap (edOf s)).length) ∧ (0 < ((keysL kl).flatMap (edOf s)).length → u = vE) := by
          by_cases h : 0 < ((keysL kl).flatMap (edOf s)).length
          · exact ⟨vE, fun g e => ⟨e, h⟩, fun _ => rfl⟩
          · exact ⟨.slice none 0 0, fun g e => (by cases e), fun c => absurd c h⟩
        have S5 : AcW w0 w4 T ml mh mw n s l.length uE := S4.out.bear (fun g e => by
          obtain ⟨e1, e2⟩ := hE1 g e
          refine ⟨st.out.t.nt_new (World.ownsRow.lt HRE4.out g e1).1, ?_⟩
          obtain ⟨a, c, _, hc⟩ := HRE4.out.form
          obtain ⟨g', _, hg', hx⟩ := hc 0 e2
          rw [e1] at hg'
          injection hg' with hg'
          subst hg'
          exact ⟨_, _, (hx w4 rfl).1⟩)
        have HP : Hid (∀ g, uE.ownBlock = some g → rideP s.pas uE w4 g = w4.heap[g]?) := fun g e => by unfold rideP; rw [if_pos e]
        have hPN : ∀ g, vL.ownBlock = some g → rideP s.pas uE w4 g = none := fun g e => by
          unfold rideP
          rw [if_neg (fun c => ?_)]
          · exact (S2.out.t.nt_new (World.ownsRow.lt HRL4.out g e).1).p
          · have h1 := (World.ownsRow.lt HRE.out g (hE1 g c).1).2
            have h2 := (World.ownsRow.lt HRL4.out g e).1
            omega
        have S6 := S5.take
        generalize rideP s.pas uE w4 = p at *
        have S7 := Lib.hid (S6.bear (v := vL) (fun g e => by
          have h1 := S2.out.t.nt_new (World.ownsRow.lt HRL4.out g e).1
          refine ⟨⟨h1.t, h1.k, h1.x, hPN g e⟩, 0, ?_⟩
          exact (own0 HRL4.out (by decide) (fun e2 => HL0.out (List.length_eq_zero_iff.1 e2)) g e).1))
        have HE2 := Lib.hid hE2
        have HE1 := Lib.hid hE1
        have HLEN : Hid ((lineO s key).length ≤ 180) := by
          have h1 := S4.out.a.lens key
          have h2 := HJL.out
          show (List.map _ _).length ≤ 180
          rw [List.length_map, List.length_append]
          omega
        have KK := Lib.hid (ask_ac (b := b) S7.out (by have := HJL.out; omega) HKS.out hwf)
        have HWW := Lib.hid (S7.out.a.w)
        have HGS := Lib.hid S7.out.a.g
        clear S5 S6 hE1 hE2 hPN S2 S3 S4 hn st
        go_wp2_with fail
        refine KK.out.mono ?_
        rintro e w5 ⟨c5, s1, rfl, hr1, ha1, hv1⟩
        have S8 := Lib.hid ha1
        have V8 := Lib.hid hv1
        have HR1 := Lib.hid hr1
        clear KK ha1 hv1 hr1 S7
        by_cases hc : c5 = 10
        · subst hc
          obtain ⟨v1, hv1⟩ := HR1.out.busy rfl
          have HV1 := Lib.hid hv1
          have hll := HR1.out.lineLen rfl
          have KL2 := Lib.hid (line_all S8.out.t (k := key) (by have := HKS.out; omega) (by have := S8.out.a.lens key; have := HJL.out; omega))
          obtain ⟨N, hN⟩ : ∃ N, (lineO s key).length = N := ⟨_, rfl⟩
          have hll : (lineO s1 key).length = N + 1 := by rw [← hN]; exact hll
          obtain ⟨aL, cL, hvL, hIL⟩ := HRL4.out.form
          have HIL := Lib.hid hIL
          have HN := Lib.hid hN
          have hN180 : N ≤ 180 := by rw [← hN]; exact HLEN.out
          rw [hN] at hvL
          clear hv1 hIL hN
          go_wp2_with fail
          refine KL2.out.mono ?_
          rintro e w6 ⟨vL2, rfl, hrL2, _, hb6⟩
          obtain ⟨aL2, cL2, hvL2, _⟩ := hrL2.form
          rw [hll] at hvL2
          subst hvL2
          have S9 := Lib.hid (S8.out.below hb6)
          have KQ := Lib.hid (quit_ac S9.out.1 (o := o) (by have := HJL.out; omega) hwf)
          have VOWN : Hid (∀ g, vL.ownBlock = some g → g < w4.heap.size) := fun g e => (World.ownsRow.lt HRL4.out g e).2
          subst hvL
          clear KL2 hrL2 hb6 hll
          go_wp2_with fail
          refine KQ.out.mono ?_
          rintro e w7 (⟨hno, _, _⟩ | ⟨w, u, ps, n2, s2, hw, rfl, hru, hu0, hp2, _, ha2, hv2⟩)
          · exfalso
            rw [HV1.out] at hno; cases hno
          obtain ⟨cw, hcw, _, _⟩ := HWW.out
          obtain ⟨rfl, hwas, _⟩ := quits_back HGS.out hcw HR1.out rfl HKS.out hwf hw hp2
          obtain rfl := hu0 rfl
          have HPAS : Hid (s2.pas = p) := hp2.pas.trans HR1.out.pas
          have HWAS := Lib.hid hwas
          have S10 := Lib.hid ha2
          have V10 : Hid (∀ g, (Value.slice aL N cL).ownBlock = some g → w7.heap[g]? = w4.heap[g]?) := fun g e => (hv2 g e).trans ((S9.out.2 g e).trans (V8.out g e))
          have KL3 := Lib.hid (line_all S10.out.t (k := key) (by have := HKS.out; omega) (by have := S10.out.a.lens key; have := HJL.out; omega))
          rw [hwas.line key] at KL3
          clear KQ hw hru hu0 hp2 ha2 hv2 hwas S8 S9 V8 HR1 HV1 hcw
          go_wp2_with fail
          refine KL3.out.mono ?_
          rintro e w8 ⟨vL3, rfl, hrL3, _, hb8⟩
          have S11 := Lib.hid (S10.out.below hb8)
          obtain ⟨aL3, cL3, hvL3, hIL3⟩ := hrL3.form
          have hlN : (lineO (withP s p) key).length = N := HN.out
          rw [hlN] at hvL3
          subst hvL3
          have I3 := hIL3 w8 (fun _ _ => rfl)
          have I4 := HIL.out w8 (fun g e => (S11.out.2 g e).trans (V10.out g e))
          have KS := same_any aL3 aL (lineO (withP s p) key) (lineO s key) cL3 cL w8 (by rw [hlN]; unfold maxLen; omega) (by rw [HN.out]; unfold maxLen; omega) I3 I4
          rw [hlN, HN.out] at KS
          have heq : (lineO (withP s p) key == lineO s key) = true := beq_self_eq_true (lineO s key)
          rw [heq] at KS
          have KS := Lib.hid KS
          clear KL3 hrL3 hb8 hIL3 I3 I4 heq hlN S10 V10 HIL
          go_wp2_with fail
          refine KS.out.mono ?_
          rintro e w9 ⟨rfl, hb9⟩
          have S12 := Lib.hid (S11.out.1.below hb9).1
          have hnb := S12.out.a.nb
          have KH2 := Lib.hid (holds_any S12.out.t S12.out.a.g.c (o := o) hwf (by have := HJL.out; omega))
          clear KS hb9 S11
          go_wp2_with fail
          refine KH2.out.mono ?_
          rintro e w10 ⟨vH2, lH2, ksH2, rfl, hrH2, _, _, hpH2, hnH2, hkH2, hb10⟩
          have S13 := Lib.hid (S12.out.below hb10).1
          obtain ⟨aH2, cH2, rfl⟩ := hrH2.form
          have hlH : lH2.length = lH.length := by
            have h1 := HWAS.out.holds (o := o) HH.out.2.1 hnH2 HH.out.2.2 hkH2
            rw [hpH2.length_eq, List.length_map, h1, HH.out.1]
          rw [hlH]
          have KE2 := Lib.hid (edges_all S13.out.t S13.out.a.g.c (by have := HJL.out; omega) (fun k => by have := S13.out.a.lens k; have := HJL.out; omega))
          clear KH2 hrH2 hpH2 hnH2 hkH2 hb10 S12 hlH
          go_wp2_with fail
          refine KE2.out.mono ?_
          rintro e w11 ⟨vE2, kl2, rfl, hrE2, hkl2, hb11⟩
          have S14 := Lib.hid (S13.out.below hb11).1
          have hes := HWAS.out.edges HGS.out.c (kl := kl) (kl2 := kl2) HKL.out hkl2
          have hes : (keysL kl2).flatMap (edOf s2) = (keysL kl).flatMap (edOf s) := hes
          rw [hes] at hrE2
          have HRE5 : Hid (∀ X : World, Below w11.heap.size w11 X → ∀ g, uE.ownBlock = some g → X.heap[g]? = w4.heap[g]?) := fun X hX g e => by
            have h1 := HP.out g e
            have h2 : w4.heap[g]? = some (w4.heap[g]'(World.ownsRow.lt HRE4.out g (HE1.out g e).1).2) := Array.getElem?_eq_getElem _
            have h3 : s2.pas g = some (w4.heap[g]'(World.ownsRow.lt HRE4.out g (HE1.out g e).1).2) := by rw [HPAS.out, h1, h2]
            rw [(S14.out.t.below hX).ps.pa g _ h3, h2]
          generalize (keysL kl).flatMap (edOf s) = es at *
          have hesb : es.length ≤ maxLen := rowE_len HRE4.out
          unfold maxLen at hesb
          obtain ⟨aE, cE, rfl, hcE⟩ := HRE4.out.form
          obtain ⟨aE2, cE2, rfl, hcE2⟩ := hrE2.form
          have HCE := Lib.hid hcE
          have HCE2 := Lib.hid hcE2
          have HBX := Lib.hid (HB0.out.trans (S14.out.bw.mono HB0.out.size))
          have HLT2 : Hid (∀ g, (Value.slice aE2 es.length cE2).ownBlock = some g → g < w11.heap.size) := fun g e => (World.ownsRow.lt hrE2 g e).2
          have hne := neq_edge
          clear KE2 hrE2 hkl2 hb11 hcE hcE2 hes S13
          go_wp2
          go_loopw [16] (fun i wr => ∃ t : Nat, i = .int .i64 (t : Int) ∧ t ≤ es.length ∧ Hid (Below w11.heap.size w11 wr)) (fun i _ => es.length - (intOf i).toNat)
          case atStart => exact ⟨0, rfl, Nat.zero_le _, Below.refl _ _⟩
          case round =>
            obtain ⟨t, rfl, ht, hbt⟩ := hrel
            rename World => wx
            by_cases hlt : t < es.length
            · obtain ⟨g1, rfl, ho1, hx1⟩ := HCE.out t hlt
              obtain ⟨g2, rfl, ho2, hx2⟩ := HCE2.out t hlt
              have hue := HE2.out (by omega)
              have hb3 : Below w11.heap.size w11 wx.drew := hbt.out.drew
              obtain ⟨c1, c2⟩ := hx1 wx.drew (HRE5.out _ hb3 g1 (by rw [hue]; rfl))
              obtain ⟨c3, c4⟩ := hx2 wx.drew (hb3.block g2 (HLT2.out g2 rfl))
              have HBT := Lib.hid hb3
              have HLT := Lib.hid hlt
              clear hx1 hx2 hue hb3 hbt ho1 ho2
              generalize es[t] = z at *
              obtain ⟨z1, z2⟩ := z
              go_upto_region 25 with fail
              go_region_law (fail)
              all_goals clear c1 c2 c3 c4
              all_goals go_wp2
              all_goals
                go_roundw
                case rel => exact ⟨t + 1, by go_num, HLT.out, HBT⟩
                case measure => simp [intOf]; have := HLT.out; omega
            · obtain rfl : t = es.length := by omega
              have HBZ := Lib.hid (HBX.out.trans (hbt.out.mono HBX.out.size))
              clear hbt
              go_wp2
              go_ret
              exact ⟨rfl, HBZ.out⟩
        · go_wp2
          go_ret
          exact ⟨rfl, HB0.out.trans (S8.out.bw.mono HB0.out.size)⟩
end Go.Proofs.Ytgabdlnbencglaa
