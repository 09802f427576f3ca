/-
  law 14: looks: a table tells what the two lists tell.
-/
import Derived.Test.YtjojempjmpaaaaaLkLooksP
import Derived.Test.YtjojempjmpaaaaaLkm14
import Derived.Test.YtjojempjmpaaaaaLkSame
import Derived.Deep.Cut
import Derived.Deep.CutRange
import Derived.Deep.CutBlock
import Derived.Deep.DeepCutAuto
namespace Go.Proofs.Ytjojempjmpaaaaa
open Go.RowKit
theorem RowF.form {W : World} {B : Nat} {v : Value} {l : List (Int × Int)} (h : RowF W B v l) : ∃ a c, v = .slice a l.length c ∧ ∀ i (hi : i < l.length), ∃ g, a = some ⟨g, 0, none⟩ ∧ v.ownBlock = some g ∧ ∀ X : World, X.heap[g]? = W.heap[g]? → X.cell? ⟨g, i * 2, none⟩ = some (.int .i64 l[i].1) ∧ X.cell? ⟨g, i * 2 + 1, none⟩ = some (.int .i64 l[i].2) := by
  rcases h.2 with ⟨hv, hn⟩ | ⟨g, cap, cur, hv, _⟩
  · exact ⟨none, 0, by rw [hv, hn], fun i hi => by omega⟩
  · refine ⟨some ⟨g, 0, none⟩, cap, hv, fun i hi => ⟨g, rfl, by rw [hv]; rfl, fun X hX => ?_⟩⟩
    have h' : W.ownsRow B 71 2 (.slice (some ⟨g, 0, none⟩) l.length cap) l.length (flatE l) := hv ▸ h
    obtain ⟨e1, e2⟩ := flatE_get l i hi
    rw [World.cell?_of_block (a := ⟨g, i * 2, none⟩) hX, World.cell?_of_block (a := ⟨g, i * 2 + 1, none⟩) hX, World.ownsRow.cellAt h' _ (by omega), World.ownsRow.cellAt h' _ (by omega)]
    exact ⟨e1, e2⟩
theorem rowCl_below {W X : World} {B : Nat} {v : Value} {l : List Cl} (h : RowCl W B v l) (hb : Below W.heap.size W X) : RowCl X B v l := ownsRow_of h (fun g e => hb.block g (World.ownsRow.lt h g e).2)
theorem rowE_below {W X : World} {B : Nat} {v : Value} {l : List (Int × Int)} (h : RowE W B v l) (hb : Below W.heap.size W X) : RowE X B v l := ownsRow_of h (fun g e => hb.block g (World.ownsRow.lt h g e).2)
/-- What is wanted of a table that is looked at. -/
structure LooksAt (B : Nat) (W : World) (T ml mh mw n : Nat) (s : Lk) (aH : Option Addr) (H : List Wc) (cH : Nat) (aL : Option Addr) (L : List Wc) (cL : Nat) : Prop where
  t : LkAt B W T ml mh mw n s
  c : LkC s
  two : Two s H L
  n4 : n ≤ 4000
  ql : ∀ k, (s.q 0 k).length + ((s.q 1 k).length + (s.q 2 k).length) ≤ 10000
  hH : WcsAt W aH H
  hL : WcsAt W aL L
  lH : H.length ≤ 100
  lL : L.length ≤ 100
theorem LooksAt.below {B : Nat} {W X : World} {T ml mh mw n : Nat} {s : Lk} {aH : Option Addr} {H : List Wc} {cH : Nat} {aL : Option Addr} {L : List Wc} {cL : Nat} (h : LooksAt B W T ml mh mw n s aH H cH aL L cL) (hb : Below W.heap.size W X) : LooksAt B X T ml mh mw n s aH H cH aL L cL :=
  ⟨h.t.below hb, h.c, h.two, h.n4, h.ql, h.hH.below hb, h.hL.below hb, h.lH, h.lL⟩
section
variable {B : Nat} {W : World} {T ml mh mw n : Nat} {s : Lk} {aH : Option Addr} {H : List Wc} {cH : Nat} {aL : Option Addr} {L : List Wc} {cL : Nat} {o : Int} {k : ByteArray}
set_option maxRecDepth 100000 in
set_option maxHeartbeats 16000000 in
theorem looks_any (h : LooksAt B W T ml mh mw n s aH H cH aL L cL) (hwf : (Lit.int .i64 o).wf = true) (hk : k.size ≤ 1000) :
    Calls Try.prog 11 #[.pointer (some ⟨T, 0, none⟩), tabV aH H cH aL L cL, .int .i64 o, .string k] W fun e W' => e = .returned (.bool true) ∧ Below W.heap.size W W' := by
  have hba : Below W.heap.size W (W.alloc (.cells #[.slice aH H.length cH, .slice aL L.length cL] 29)) := (Below.refl _ _).alloc (Nat.le_refl _) _
  have hA := h.below hba
  have t0 : (W.alloc (.cells #[.slice aH H.length cH, .slice aL L.length cL] 29)).cell? ⟨W.heap.size, 0, none⟩ = some (.slice aH H.length cH) := new_cell rfl rfl
  have t1 : (W.alloc (.cells #[.slice aH H.length cH, .slice aL L.length cL] 29)).cell? ⟨W.heap.size, 1, none⟩ = some (.slice aL L.length cL) := new_cell rfl rfl
  have HB := Lib.hid hba
  have HWF := Lib.hid hwf
  have HKS := Lib.hid hk
  have HLH : Hid (H.length ≤ 100 ∧ L.length ≤ 100) := ⟨h.lH, h.lL⟩
  have hli : (H.length : Int) ≤ 100 := by have := h.lH; omega
  have hli2 : (L.length : Int) ≤ 100 := by have := h.lL; omega
  clear h hba hwf hk
  unfold tabV
  go_enter Try.func11, Try.ntmps11
  go_upto_region 1 with fail
  generalize W.alloc (.cells #[.slice aH H.length cH, .slice aL L.length cL] 29) = Y at *
  generalize hN : W.heap.size = N at t0 t1 ⊢
  have hN2 := Lib.hid hN.symm
  have HA := Lib.hid hA
  have HT : Hid (∀ X, Below Y.heap.size Y X → X.cell? ⟨N, 0, none⟩ = some (.slice aH H.length cH) ∧ X.cell? ⟨N, 1, none⟩ = some (.slice aL L.length cL)) := fun X hX => ⟨keep_cell hX t0, keep_cell hX t1⟩
  have KH : Hid (∀ X, Below Y.heap.size Y X → Calls Try.prog 16 #[.pointer (some ⟨T, 0, none⟩), .int .i64 o] X fun e W' => ∃ v, e = .returned v ∧ RowCl W' Y.heap.size v ((holdsR H o).map fun c => ((c.k, c.wr) : Cl)) ∧ Below X.heap.size X W') := fun X hX => by
    have hx := HA.out.below hX
    refine (holds_any hx.t hx.c HWF.out (by have := hx.n4; omega)).mono ?_
    rintro e W' ⟨v, l, ks, rfl, hr, _, hs, hp, hn, hk, hb⟩
    rw [hx.two.holds hx.c hs hp hn hk] at hr
    exact ⟨v, rfl, ⟨hr.1, hr.2.imp id fun ⟨g, cap, cur, q1, q2, q3⟩ => ⟨g, cap, cur, q1, Nat.le_trans hX.size q2, q3⟩⟩, hb⟩
  have KR : Hid (∀ X, Below Y.heap.size Y X → Calls Try.prog 23 #[.agg #[.slice aH H.length cH, .slice aL L.length cL], .int .i64 o] X fun e W' => ∃ v, e = .returned v ∧ RowW W' Y.heap.size v (holdsR H o) ∧ Below X.heap.size X W') := fun X hX => by
    have hx := HA.out.below hX
    refine (holds14_any aH H cH aL L cL o (by have := hx.lH; omega) hx.hH).mono ?_
    rintro e W' ⟨v, rfl, hr, hb⟩
    exact ⟨v, rfl, hr.mono hX.size, hb⟩
  have HBD : Hid (Below Y.heap.size Y Y.drew) := (Below.refl _ _).drew
  obtain ⟨d0, d1⟩ := HT.out _ HBD.out
  clear hA t0 t1
  go_cut [9, 10] from 18 to 23 (fun v9 v10 wx => Hid (RowCl wx Y.heap.size v9 ((holdsR H o).map fun c => ((c.k, c.wr) : Cl))) ∧ Hid (RowW wx Y.heap.size v10 (holdsR H o)) ∧ Hid (Below Y.heap.size Y wx))
  case first =>
    go_region_law (first | (go_simp; go_at_call 16; (with_reducible refine (KH.out _ HBD.out).mono ?_); rintro e wA ⟨v9, rfl, hrA, hbA⟩; have RA := Lib.hid hrA; have HBA := Lib.hid (HBD.out.trans (hbA.mono HBD.out.size)); obtain ⟨dA0, dA1⟩ := HT.out _ HBA.out; clear hrA hbA; go_simp) | (go_simp; go_at_call 16; (with_reducible refine (KH.out _ HBB.out).mono ?_); rintro e wA ⟨v9, rfl, hrA, hbA⟩; have RAf := Lib.hid hrA; have RBf := Lib.hid (rowW_below RB.out hbA); have HBf := Lib.hid (HBB.out.trans (hbA.mono HBB.out.size)); clear hrA hbA; go_simp) | (go_simp; go_at_call 23; (with_reducible refine (KR.out _ HBD.out).mono ?_); rintro e wB ⟨v10, rfl, hrB, hbB⟩; have RB := Lib.hid hrB; have HBB := Lib.hid (HBD.out.trans (hbB.mono HBD.out.size)); obtain ⟨dB0, dB1⟩ := HT.out _ HBB.out; clear hrB hbB; go_simp) | (go_simp; go_at_call 23; (with_reducible refine (KR.out _ HBA.out).mono ?_); rintro e wB ⟨v10, rfl, hrB, hbB⟩; have RBf := Lib.hid hrB; have RAf := Lib.hid (rowCl_below RA.out hbB); have HBf := Lib.hid (HBA.out.trans (hbB.mono HBA.out.size)); clear hrB hbB; go_simp))
    all_goals
      go_wp2_with fail
      go_meet
      exact ⟨RAf, RBf, HBf⟩
  case rest =>
  obtain ⟨r9, r10, hbx⟩ := hcut
  rename World => wx
  clear KH KR HBD d0 d1
  have HR9 := r9
  have HR10 := r10
  have HBX := hbx
  clear r9 r10 hbx
  obtain ⟨a9, c9, hv9, hc9⟩ := HR9.out.cells
  obtain ⟨a10, c10, hv10, hc10⟩ := HR10.out.form
  rw [List.length_map] at hv9
  have HC9 := Lib.hid hc9
  generalize holdsR H o = R at *
  have hv9b := hv9
  subst hv9 hv10
  have HWC := Lib.hid hc10
  have S0 : Hid (Below wx.heap.size wx wx) := Below.refl _ _
  have HRL : Hid (R.length ≤ maxLen) := by
    rcases HR10.out.2 with ⟨_, hn⟩ | ⟨g, cap, cur, _, _, _, h1, h2, _⟩
    · show _ ≤ _
      rw [hn]; exact Nat.zero_le _
    · exact Nat.le_trans h1 h2
  have hrl := HRL.out
  unfold maxLen at hrl
  have hrli : (R.length : Int) ≤ 9223372036854775807 := by omega
  clear hc9 hc10 hv9b hrl
  go_wp2
  go_loopw [11] (fun i wr => ∃ j : Nat, i = .int .i64 (j : Int) ∧ j ≤ R.length ∧ Hid (Below wx.heap.size wx wr)) (fun i _ => R.length - (intOf i).toNat)
  case atStart => exact ⟨0, rfl, Nat.zero_le _, S0⟩
  case round =>
    obtain ⟨j, rfl, hj, hb⟩ := hrel
    rename World => wr
    clear S0
    by_cases hlt : j < R.length
    · obtain ⟨g9, e9, eo9, hcc⟩ := HC9.out j (by rw [List.length_map]; exact hlt)
      obtain ⟨p0, p1⟩ := hcc wr (hb.out.block g9 (World.ownsRow.lt HR9.out g9 eo9).2)
      rw [List.getElem_map] at p0 p1
      obtain ⟨b10, o10, e10, k0, k1, k2⟩ := (HWC.out.below hb.out).cell hlt
      have HLT := Lib.hid hlt
      have hji : (j : Int) < (R.length : Int) := by omega
      have hjn : (0 : Int) ≤ (j : Int) := Int.natCast_nonneg _
      have HNB := Lib.hid (fun n => below_drewN hb.out n)
      subst e9 e10
      clear k0 hcc
      generalize R[j] = x at *
      obtain ⟨xk, xw, xo⟩ := x
      replace p0 : wr.cell? ⟨g9, j * 2, none⟩ = some (.string xk) := p0
      replace p1 : wr.cell? ⟨g9, j * 2 + 1, none⟩ = some (.bool xw) := p1
      replace k1 : wr.cell? ⟨b10, o10 + j * 3 + 1, none⟩ = some (.string xk) := k1
      replace k2 : wr.cell? ⟨b10, o10 + j * 3 + 2, none⟩ = some (.bool xw) := k2
      have hsk : (xk.toList == xk.toList) = true := beq_self_eq_true _
      go_upto_region 7 with fail
      cases xw
      all_goals
        go_quiet (fail)
        go_wp2
        go_roundw
        case rel => exact ⟨j + 1, by go_num, HLT.out, HNB.out _⟩
        case measure => simp [intOf]; have := HLT.out; omega
    · obtain rfl : j = R.length := by omega
      have HBR := Lib.hid (HBX.out.trans (hb.out.mono HBX.out.size))
      have KO : Hid (∀ X, Below Y.heap.size Y X → Calls Try.prog 25 #[.agg #[.slice aH H.length cH, .slice aL L.length cL], .string k] X fun e W' => ∃ v, e = .returned v ∧ RowI W' Y.heap.size v (lineO s k) ∧ Below X.heap.size X W') := fun X hX => by
        have hx := HA.out.below hX
        refine (of14_any aH H cH aL L cL k (by have := hx.lL; omega) hx.hL).mono ?_
        rintro e W' ⟨v, rfl, hr, hb⟩
        rw [hx.two.line] at hr
        exact ⟨v, rfl, rowI_mono hr hX.size, hb⟩
      have KL : Hid (∀ X, Below Y.heap.size Y X → Calls Try.prog 19 #[.pointer (some ⟨T, 0, none⟩), .string k] X fun e W' => ∃ v, e = .returned v ∧ RowI W' Y.heap.size v (lineO s k) ∧ Below X.heap.size X W') := fun X hX => by
        have hx := HA.out.below hX
        refine (line_all hx.t HKS.out (by have := hx.ql k; omega)).mono ?_
        rintro e W' ⟨v, rfl, hr, _, hb⟩
        exact ⟨v, rfl, rowI_mono hr hX.size, hb⟩
      have KS : Hid (∀ (X : World) (va vb : Value), RowI X Y.heap.size va (lineO s k) → RowI X Y.heap.size vb (lineO s k) → Calls Try.prog 20 #[va, vb] X fun e W' => e = .returned (.bool true) ∧ Below X.heap.size X W') := fun X va vb ha hb => by
        obtain ⟨a1, c1, e1, i1⟩ := ha.form
        obtain ⟨a2, c2, e2, i2⟩ := hb.form
        have hlm : (lineO s k).length ≤ maxLen := by
          unfold lineO
          rw [List.length_map, List.length_append]
          have := HA.out.ql k
          unfold maxLen; omega
        rw [e1, e2]
        refine (same_any a1 a2 (lineO s k) (lineO s k) c1 c2 X hlm hlm (i1 X (fun _ _ => rfl)) (i2 X (fun _ _ => rfl))).mono ?_
        rintro e W' ⟨rfl, hb⟩
        rw [beq_self_eq_true]
        exact ⟨rfl, hb⟩
      clear HC9 HWC HR9 HR10 hb
      cases hw : s.wt o with
      | none =>
        have KW := Lib.hid (waits_no (HA.out.below HBR.out).t HWF.out hw)
        have ep := ((HA.out.two).w0 HA.out.c hw).1
        go_upto_region 9 with fail
        go_wp2_with fail
        refine KW.out.mono ?_
        rintro e wa ⟨rfl, hba⟩
        have HBA0 := HBR.out.trans (hba.mono HBR.out.size)
        have hbc : Below wa.heap.size wa (wa.alloc (.cells #[(.string ⟨#[]⟩), (.bool false)] 40)) := (Below.refl _ _).alloc (Nat.le_refl _) _
        have HBC := Lib.hid (HBA0.trans (hbc.mono HBA0.size))
        have g0 : (wa.alloc (.cells #[(.string ⟨#[]⟩), (.bool false)] 40)).cell? ⟨wa.heap.size, 0, none⟩ = some (.string ⟨#[]⟩) := new_cell rfl rfl
        have g1 : (wa.alloc (.cells #[(.string ⟨#[]⟩), (.bool false)] 40)).cell? ⟨wa.heap.size, 1, none⟩ = some (.bool false) := new_cell rfl rfl
        clear KW hba HBA0 hbc
        go_upto_region 10 with fail
        generalize wa.alloc (.cells #[(.string ⟨#[]⟩), (.bool false)] 40) = wc at *
        generalize wa.heap.size = M at *
        obtain ⟨t0, t1⟩ := HT.out wc HBC.out
        have KX := Lib.hid (waits14_any (W := wc) aH H cH aL L cL o (by have := HLH.out.2; omega) (HA.out.below HBC.out).hL)
        unfold tabV at KX
        rw [ep] at KX
        go_wp2_with fail
        refine KX.out.mono ?_
        rintro e wd ⟨rfl, hbd⟩
        have HBW := Lib.hid (HBC.out.trans (hbd.mono HBC.out.size))
        have HBD : Hid (Below Y.heap.size Y wd.drew) := HBW.out.trans ((Below.refl wd.heap.size wd).drew.mono HBW.out.size)
        have hbq : Below wc.heap.size wc wd.drew := hbd.trans ((Below.refl wd.heap.size wd).drew.mono hbd.size)
        have m0 := keep_cell hbq g0
        have m1 := keep_cell hbq g1
        obtain ⟨d0, d1⟩ := HT.out _ HBD.out
        clear KX g0 g1 t0 t1 hbd hbq
        clear ep
        go_upto_region 11 with fail
        have HBZY := HBD
        have HSX : Hid (∀ X, Below wd.drew.heap.size wd.drew X → ((fun w' => w'.cell? ⟨N, 0, none⟩ = some (.slice aH H.length cH) ∧ w'.cell? ⟨N, 1, none⟩ = some (.slice aL L.length cL) ∧ w'.cell? ⟨M, 0, none⟩ = some (.string ⟨#[]⟩) ∧ w'.cell? ⟨M, 1, none⟩ = some (.bool false)) X)) := fun X hX => ⟨keep_cell hX d0, keep_cell hX d1, keep_cell hX m0, keep_cell hX m1⟩
        have HBZ : Hid (Below wd.drew.heap.size wd.drew wd.drew) := Below.refl _ _
        replace KL := Lib.hid (fun X (hX : Below wd.drew.heap.size wd.drew X) => KL.out X (HBZY.out.trans (hX.mono HBZY.out.size)))
        replace KO := Lib.hid (fun X (hX : Below wd.drew.heap.size wd.drew X) => KO.out X (HBZY.out.trans (hX.mono HBZY.out.size)))
        go_cut [115] from 68 to 114 (fun v wv => v = .bool false ∧ Hid (Below Y.heap.size Y wv))
        case first =>
          refine wp_region_held_drew (S := (fun w' => w'.cell? ⟨N, 0, none⟩ = some (.slice aH H.length cH) ∧ w'.cell? ⟨N, 1, none⟩ = some (.slice aL L.length cL) ∧ w'.cell? ⟨M, 0, none⟩ = some (.string ⟨#[]⟩) ∧ w'.cell? ⟨M, 1, none⟩ = some (.bool false))) (by kernel_rfl) ?_ (fun hHeld => ?_)
          · (try dsimp only); (first | exact HSX.out _ HBS.out | exact HSX.out _ HBf.out | exact HSX.out _ HBA.out | exact HSX.out _ HBB.out | exact HSX.out _ HBZ.out)
          refine wpAnyH_take (i := 0) (oi := { dst := some 68, op := Op.move (Operand.tmp 13), type := 4, pos := "law.go:54", after := #[], guard := none }) (v := ?_) rfl (by kernel_rfl) (by kernel_rfl) (by kernel_rfl) (fun _ _ _ h => h) (Or.inl ⟨by rfl, ?_⟩) (by assumption) ?_
          rotate_left 1
          · (intro w' hSw; (try obtain ⟨s0, s1, s2, s3⟩ := hSw); go_simp; try (with_reducible rfl))
          try simp only [Act.put, List.setIfInBounds_toArray, List.set_cons_zero, List.set_cons_succ]
          refine wpAnyH_take (i := 1) (oi := { dst := some 69, op := Op.move (Operand.tmp 14), type := 3, pos := "law.go:54", after := #[], guard := none }) (v := ?_) rfl (by kernel_rfl) (by kernel_rfl) (by kernel_rfl) (fun _ _ _ h => h) (Or.inl ⟨by rfl, ?_⟩) (by assumption) ?_
          rotate_left 1
          · (intro w' hSw; (try obtain ⟨s0, s1, s2, s3⟩ := hSw); go_simp; try (with_reducible rfl))
          try simp only [Act.put, List.setIfInBounds_toArray, List.set_cons_zero, List.set_cons_succ]
          refine wpAnyH_take (i := 2) (oi := { dst := some 70, op := Op.binOp BinOp.geq 3 (Operand.tmp 69) (Operand.const (Value.int IntKind.i64 0)) 3, type := 4, pos := "law.go:54", after := #[{ on := 1, ground := Ground.data }], guard := none }) (v := ?_) rfl (by kernel_rfl) (by kernel_rfl) (by kernel_rfl) (fun _ _ _ h => h) (Or.inl ⟨by rfl, ?_⟩) (by assumption) ?_
          rotate_left 1
          · (intro w' hSw; (try obtain ⟨s0, s1, s2, s3⟩ := hSw); go_simp; try (with_reducible rfl))
          try simp only [Act.put, List.setIfInBounds_toArray, List.set_cons_zero, List.set_cons_succ]
          refine wpAnyH_take (i := 3) (oi := { dst := some 71, op := Op.binOp BinOp.neq 4 (Operand.tmp 68) (Operand.tmp 70) 4, type := 4, pos := "law.go:54", after := #[{ on := 0, ground := Ground.data }, { on := 2, ground := Ground.data }], guard := none }) (v := ?_) rfl (by kernel_rfl) (by kernel_rfl) (by kernel_rfl) (fun _ _ _ h => h) (Or.inl ⟨by rfl, ?_⟩) (by assumption) ?_
          rotate_left 1
          · (intro w' hSw; (try obtain ⟨s0, s1, s2, s3⟩ := hSw); go_simp; try (with_reducible rfl))
          try simp only [Act.put, List.setIfInBounds_toArray, List.set_cons_zero, List.set_cons_succ]
          refine wpAnyH_take (i := 4) (oi := { dst := some 72, op := Op.move (Operand.tmp 71), type := 4, pos := "law.go:54", after := #[{ on := 3, ground := Ground.data }], guard := none }) (v := ?_) rfl (by kernel_rfl) (by kernel_rfl) (by kernel_rfl) (fun _ _ _ h => h) (Or.inl ⟨by rfl, ?_⟩) (by assumption) ?_
          rotate_left 1
          · (intro w' hSw; (try obtain ⟨s0, s1, s2, s3⟩ := hSw); go_simp; try (with_reducible rfl))
          try simp only [Act.put, List.setIfInBounds_toArray, List.set_cons_zero, List.set_cons_succ]
          refine wpAnyH_take (i := 5) (oi := { dst := some 73, op := Op.move (Operand.tmp 13), type := 4, pos := "law.go:54", after := #[{ on := 4, ground := Ground.guard }], guard := some (4, false) }) (v := ?_) rfl (by kernel_rfl) (by kernel_rfl) (by kernel_rfl) (fun _ _ _ h => h) (Or.inl ⟨by rfl, ?_⟩) (by assumption) ?_
          rotate_left 1
          · (intro w' hSw; (try obtain ⟨s0, s1, s2, s3⟩ := hSw); go_simp; try (with_reducible rfl))
          try simp only [Act.put, List.setIfInBounds_toArray, List.set_cons_zero, List.set_cons_succ]
          refine wpAnyH_take (i := 6) (oi := { dst := some 74, op := Op.move (Operand.tmp 73), type := 4, pos := "law.go:54", after := #[{ on := 5, ground := Ground.data }, { on := 4, ground := Ground.chain }, { on := 4, ground := Ground.guard }], guard := some (4, false) }) (v := ?_) rfl (by kernel_rfl) (by kernel_rfl) (by kernel_rfl) (fun _ _ _ h => h) (Or.inl ⟨by rfl, ?_⟩) (by assumption) ?_
          rotate_left 1
          · (intro w' hSw; (try obtain ⟨s0, s1, s2, s3⟩ := hSw); go_simp; try (with_reducible rfl))
          try simp only [Act.put, List.setIfInBounds_toArray, List.set_cons_zero, List.set_cons_succ]
          refine wpAnyH_take (i := 7) (oi := { dst := some 75, op := Op.fieldAddr 40 (Operand.tmp 12) 0, type := 0, pos := "law.go:54", after := #[{ on := 6, ground := Ground.guard }], guard := some (6, true) }) (v := undef) rfl (by kernel_rfl) (by kernel_rfl) (by kernel_rfl) (fun _ _ _ h => h) (Or.inr ⟨by rfl, rfl⟩) (by assumption) ?_
          try simp only [Act.put, List.setIfInBounds_toArray, List.set_cons_zero, List.set_cons_succ]
          refine wpAnyH_take (i := 8) (oi := { dst := some 76, op := Op.load 9 (Operand.tmp 75), type := 9, pos := "law.go:54", after := #[{ on := 7, ground := Ground.data }, { on := 6, ground := Ground.guard }], guard := some (6, true) }) (v := undef) rfl (by kernel_rfl) (by kernel_rfl) (by kernel_rfl) (fun _ _ _ h => h) (Or.inr ⟨by rfl, rfl⟩) (by assumption) ?_
          try simp only [Act.put, List.setIfInBounds_toArray, List.set_cons_zero, List.set_cons_succ]
          refine wpAnyH_take (i := 9) (oi := { dst := some 77, op := Op.fieldAddr 29 (Operand.tmp 5) 1, type := 0, pos := "law.go:54", after := #[{ on := 6, ground := Ground.guard }], guard := some (6, true) }) (v := undef) rfl (by kernel_rfl) (by kernel_rfl) (by kernel_rfl) (fun _ _ _ h => h) (Or.inr ⟨by rfl, rfl⟩) (by assumption) ?_
          try simp only [Act.put, List.setIfInBounds_toArray, List.set_cons_zero, List.set_cons_succ]
          refine wpAnyH_take (i := 10) (oi := { dst := some 78, op := Op.load 27 (Operand.tmp 77), type := 27, pos := "law.go:54", after := #[{ on := 9, ground := Ground.data }, { on := 6, ground := Ground.guard }], guard := some (6, true) }) (v := undef) rfl (by kernel_rfl) (by kernel_rfl) (by kernel_rfl) (fun _ _ _ h => h) (Or.inr ⟨by rfl, rfl⟩) (by assumption) ?_
          try simp only [Act.put, List.setIfInBounds_toArray, List.set_cons_zero, List.set_cons_succ]
          refine wpAnyH_take (i := 11) (oi := { dst := some 79, op := Op.move (Operand.tmp 14), type := 3, pos := "law.go:54", after := #[{ on := 6, ground := Ground.guard }], guard := some (6, true) }) (v := undef) rfl (by kernel_rfl) (by kernel_rfl) (by kernel_rfl) (fun _ _ _ h => h) (Or.inr ⟨by rfl, rfl⟩) (by assumption) ?_
          try simp only [Act.put, List.setIfInBounds_toArray, List.set_cons_zero, List.set_cons_succ]
          refine wpAnyH_take (i := 12) (oi := { dst := some 80, op := Op.indexAddr 27 (Operand.tmp 78) (Operand.tmp 79), type := 0, pos := "law.go:54", after := #[{ on := 10, ground := Ground.data }, { on := 11, ground := Ground.data }, { on := 6, ground := Ground.guard }], guard := some (6, true) }) (v := undef) rfl (by kernel_rfl) (by kernel_rfl) (by kernel_rfl) (fun _ _ _ h => h) (Or.inr ⟨by rfl, rfl⟩) (by assumption) ?_
          try simp only [Act.put, List.setIfInBounds_toArray, List.set_cons_zero, List.set_cons_succ]
          refine wpAnyH_take (i := 13) (oi := { dst := some 81, op := Op.fieldAddr 67 (Operand.tmp 80) 1, type := 0, pos := "law.go:54", after := #[{ on := 12, ground := Ground.data }, { on := 6, ground := Ground.guard }], guard := some (6, true) }) (v := undef) rfl (by kernel_rfl) (by kernel_rfl) (by kernel_rfl) (fun _ _ _ h => h) (Or.inr ⟨by rfl, rfl⟩) (by assumption) ?_
          try simp only [Act.put, List.setIfInBounds_toArray, List.set_cons_zero, List.set_cons_succ]
          refine wpAnyH_take (i := 14) (oi := { dst := some 82, op := Op.load 9 (Operand.tmp 81), type := 9, pos := "law.go:54", after := #[{ on := 13, ground := Ground.data }, { on := 6, ground := Ground.guard }], guard := some (6, true) }) (v := undef) rfl (by kernel_rfl) (by kernel_rfl) (by kernel_rfl) (fun _ _ _ h => h) (Or.inr ⟨by rfl, rfl⟩) (by assumption) ?_
          try simp only [Act.put, List.setIfInBounds_toArray, List.set_cons_zero, List.set_cons_succ]
          refine wpAnyH_take (i := 15) (oi := { dst := some 83, op := Op.binOp BinOp.neq 9 (Operand.tmp 76) (Operand.tmp 82) 9, type := 4, pos := "law.go:54", after := #[{ on := 8, ground := Ground.data }, { on := 14, ground := Ground.data }, { on := 6, ground := Ground.guard }], guard := some (6, true) }) (v := undef) rfl (by kernel_rfl) (by kernel_rfl) (by kernel_rfl) (fun _ _ _ h => h) (Or.inr ⟨by rfl, rfl⟩) (by assumption) ?_
          try simp only [Act.put, List.setIfInBounds_toArray, List.set_cons_zero, List.set_cons_succ]
          refine wpAnyH_take (i := 16) (oi := { dst := some 84, op := Op.move (Operand.tmp 83), type := 4, pos := "law.go:54", after := #[{ on := 15, ground := Ground.data }, { on := 6, ground := Ground.chain }, { on := 6, ground := Ground.guard }], guard := some (6, true) }) (v := undef) rfl (by kernel_rfl) (by kernel_rfl) (by kernel_rfl) (fun _ _ _ h => h) (Or.inr ⟨by rfl, rfl⟩) (by assumption) ?_
          try simp only [Act.put, List.setIfInBounds_toArray, List.set_cons_zero, List.set_cons_succ]
          refine wpAnyH_take (i := 17) (oi := { dst := some 85, op := Op.fieldAddr 40 (Operand.tmp 12) 1, type := 0, pos := "law.go:54", after := #[{ on := 16, ground := Ground.guard }], guard := some (16, false) }) (v := undef) rfl (by kernel_rfl) (by kernel_rfl) (by kernel_rfl) (fun _ _ _ h => h) (Or.inr ⟨by rfl, rfl⟩) (by assumption) ?_
          try simp only [Act.put, List.setIfInBounds_toArray, List.set_cons_zero, List.set_cons_succ]
          refine wpAnyH_take (i := 18) (oi := { dst := some 86, op := Op.load 4 (Operand.tmp 85), type := 4, pos := "law.go:54", after := #[{ on := 17, ground := Ground.data }, { on := 16, ground := Ground.guard }], guard := some (16, false) }) (v := undef) rfl (by kernel_rfl) (by kernel_rfl) (by kernel_rfl) (fun _ _ _ h => h) (Or.inr ⟨by rfl, rfl⟩) (by assumption) ?_
          try simp only [Act.put, List.setIfInBounds_toArray, List.set_cons_zero, List.set_cons_succ]
          refine wpAnyH_take (i := 19) (oi := { dst := some 87, op := Op.fieldAddr 29 (Operand.tmp 5) 1, type := 0, pos := "law.go:54", after := #[{ on := 16, ground := Ground.guard }], guard := some (16, false) }) (v := undef) rfl (by kernel_rfl) (by kernel_rfl) (by kernel_rfl) (fun _ _ _ h => h) (Or.inr ⟨by rfl, rfl⟩) (by assumption) ?_
          try simp only [Act.put, List.setIfInBounds_toArray, List.set_cons_zero, List.set_cons_succ]
          refine wpAnyH_take (i := 20) (oi := { dst := some 88, op := Op.load 27 (Operand.tmp 87), type := 27, pos := "law.go:54", after := #[{ on := 19, ground := Ground.data }, { on := 16, ground := Ground.guard }], guard := some (16, false) }) (v := undef) rfl (by kernel_rfl) (by kernel_rfl) (by kernel_rfl) (fun _ _ _ h => h) (Or.inr ⟨by rfl, rfl⟩) (by assumption) ?_
          try simp only [Act.put, List.setIfInBounds_toArray, List.set_cons_zero, List.set_cons_succ]
          refine wpAnyH_take (i := 21) (oi := { dst := some 89, op := Op.move (Operand.tmp 14), type := 3, pos := "law.go:54", after := #[{ on := 16, ground := Ground.guard }], guard := some (16, false) }) (v := undef) rfl (by kernel_rfl) (by kernel_rfl) (by kernel_rfl) (fun _ _ _ h => h) (Or.inr ⟨by rfl, rfl⟩) (by assumption) ?_
          try simp only [Act.put, List.setIfInBounds_toArray, List.set_cons_zero, List.set_cons_succ]
          refine wpAnyH_take (i := 22) (oi := { dst := some 90, op := Op.indexAddr 27 (Operand.tmp 88) (Operand.tmp 89), type := 0, pos := "law.go:54", after := #[{ on := 20, ground := Ground.data }, { on := 21, ground := Ground.data }, { on := 16, ground := Ground.guard }], guard := some (16, false) }) (v := undef) rfl (by kernel_rfl) (by kernel_rfl) (by kernel_rfl) (fun _ _ _ h => h) (Or.inr ⟨by rfl, rfl⟩) (by assumption) ?_
          try simp only [Act.put, List.setIfInBounds_toArray, List.set_cons_zero, List.set_cons_succ]
          refine wpAnyH_take (i := 23) (oi := { dst := some 91, op := Op.fieldAddr 67 (Operand.tmp 90) 2, type := 0, pos := "law.go:54", after := #[{ on := 22, ground := Ground.data }, { on := 16, ground := Ground.guard }], guard := some (16, false) }) (v := undef) rfl (by kernel_rfl) (by kernel_rfl) (by kernel_rfl) (fun _ _ _ h => h) (Or.inr ⟨by rfl, rfl⟩) (by assumption) ?_
          try simp only [Act.put, List.setIfInBounds_toArray, List.set_cons_zero, List.set_cons_succ]
          refine wpAnyH_take (i := 24) (oi := { dst := some 92, op := Op.load 4 (Operand.tmp 91), type := 4, pos := "law.go:54", after := #[{ on := 23, ground := Ground.data }, { on := 16, ground := Ground.guard }], guard := some (16, false) }) (v := undef) rfl (by kernel_rfl) (by kernel_rfl) (by kernel_rfl) (fun _ _ _ h => h) (Or.inr ⟨by rfl, rfl⟩) (by assumption) ?_
          try simp only [Act.put, List.setIfInBounds_toArray, List.set_cons_zero, List.set_cons_succ]
          refine wpAnyH_take (i := 25) (oi := { dst := some 93, op := Op.binOp BinOp.neq 4 (Operand.tmp 86) (Operand.tmp 92) 4, type := 4, pos := "law.go:54", after := #[{ on := 18, ground := Ground.data }, { on := 24, ground := Ground.data }, { on := 16, ground := Ground.guard }], guard := some (16, false) }) (v := undef) rfl (by kernel_rfl) (by kernel_rfl) (by kernel_rfl) (fun _ _ _ h => h) (Or.inr ⟨by rfl, rfl⟩) (by assumption) ?_
          try simp only [Act.put, List.setIfInBounds_toArray, List.set_cons_zero, List.set_cons_succ]
          refine wpAnyH_take (i := 26) (oi := { dst := some 94, op := Op.pick (Operand.tmp 84) (Operand.const (Value.bool true)) (Operand.tmp 93), type := 4, pos := "law.go:54", after := #[{ on := 16, ground := Ground.data }, { on := 25, ground := Ground.data }, { on := 6, ground := Ground.guard }], guard := some (6, true) }) (v := undef) rfl (by kernel_rfl) (by kernel_rfl) (by kernel_rfl) (fun _ _ _ h => h) (Or.inr ⟨by rfl, rfl⟩) (by assumption) ?_
          try simp only [Act.put, List.setIfInBounds_toArray, List.set_cons_zero, List.set_cons_succ]
          refine wpAnyH_take (i := 27) (oi := { dst := some 95, op := Op.pick (Operand.tmp 74) (Operand.tmp 94) (Operand.const (Value.bool false)), type := 4, pos := "law.go:54", after := #[{ on := 6, ground := Ground.data }, { on := 26, ground := Ground.data }, { on := 4, ground := Ground.guard }], guard := some (4, false) }) (v := ?_) rfl (by kernel_rfl) (by kernel_rfl) (by kernel_rfl) (fun _ _ _ h => h) (Or.inl ⟨by rfl, ?_⟩) (by assumption) ?_
          rotate_left 1
          · (intro w' hSw; (try obtain ⟨s0, s1, s2, s3⟩ := hSw); go_simp; try (with_reducible rfl))
          try simp only [Act.put, List.setIfInBounds_toArray, List.set_cons_zero, List.set_cons_succ]
          refine wpAnyH_take (i := 28) (oi := { dst := some 96, op := Op.pick (Operand.tmp 72) (Operand.const (Value.bool true)) (Operand.tmp 95), type := 4, pos := "law.go:54", after := #[{ on := 4, ground := Ground.data }, { on := 27, ground := Ground.data }], guard := none }) (v := ?_) rfl (by kernel_rfl) (by kernel_rfl) (by kernel_rfl) (fun _ _ _ h => h) (Or.inl ⟨by rfl, ?_⟩) (by assumption) ?_
          rotate_left 1
          · (intro w' hSw; (try obtain ⟨s0, s1, s2, s3⟩ := hSw); go_simp; try (with_reducible rfl))
          try simp only [Act.put, List.setIfInBounds_toArray, List.set_cons_zero, List.set_cons_succ]
          refine wpAnyH_take (i := 29) (oi := { dst := some 97, op := Op.move (Operand.tmp 96), type := 4, pos := "law.go:54", after := #[{ on := 28, ground := Ground.data }, { on := 16, ground := Ground.chain }], guard := none }) (v := ?_) rfl (by kernel_rfl) (by kernel_rfl) (by kernel_rfl) (fun _ _ _ h => h) (Or.inl ⟨by rfl, ?_⟩) (by assumption) ?_
          rotate_left 1
          · (intro w' hSw; (try obtain ⟨s0, s1, s2, s3⟩ := hSw); go_simp; try (with_reducible rfl))
          try simp only [Act.put, List.setIfInBounds_toArray, List.set_cons_zero, List.set_cons_succ]
          refine wpAnyH_take (i := 30) (oi := { dst := some 98, op := Op.move (Operand.tmp 13), type := 4, pos := "law.go:54", after := #[{ on := 29, ground := Ground.guard }], guard := some (29, false) }) (v := ?_) rfl (by kernel_rfl) (by kernel_rfl) (by kernel_rfl) (fun _ _ _ h => h) (Or.inl ⟨by rfl, ?_⟩) (by assumption) ?_
          rotate_left 1
          · (intro w' hSw; (try obtain ⟨s0, s1, s2, s3⟩ := hSw); go_simp; try (with_reducible rfl))
          try simp only [Act.put, List.setIfInBounds_toArray, List.set_cons_zero, List.set_cons_succ]
          refine wpAnyH_take (i := 31) (oi := { dst := some 99, op := Op.unOp UnOp.not 4 (Operand.tmp 98), type := 4, pos := "law.go:54", after := #[{ on := 30, ground := Ground.data }, { on := 29, ground := Ground.guard }], guard := some (29, false) }) (v := ?_) rfl (by kernel_rfl) (by kernel_rfl) (by kernel_rfl) (fun _ _ _ h => h) (Or.inl ⟨by rfl, ?_⟩) (by assumption) ?_
          rotate_left 1
          · (intro w' hSw; (try obtain ⟨s0, s1, s2, s3⟩ := hSw); go_simp; try (with_reducible rfl))
          try simp only [Act.put, List.setIfInBounds_toArray, List.set_cons_zero, List.set_cons_succ]
          refine wpAnyH_take (i := 32) (oi := { dst := some 100, op := Op.move (Operand.tmp 99), type := 4, pos := "law.go:54", after := #[{ on := 31, ground := Ground.data }, { on := 29, ground := Ground.chain }, { on := 29, ground := Ground.guard }], guard := some (29, false) }) (v := ?_) rfl (by kernel_rfl) (by kernel_rfl) (by kernel_rfl) (fun _ _ _ h => h) (Or.inl ⟨by rfl, ?_⟩) (by assumption) ?_
          rotate_left 1
          · (intro w' hSw; (try obtain ⟨s0, s1, s2, s3⟩ := hSw); go_simp; try (with_reducible rfl))
          try simp only [Act.put, List.setIfInBounds_toArray, List.set_cons_zero, List.set_cons_succ]
          refine wpAnyH_take (i := 33) (oi := { dst := some 101, op := Op.load 40 (Operand.tmp 12), type := 40, pos := "law.go:54", after := #[{ on := 32, ground := Ground.guard }], guard := some (32, true) }) (v := ?_) rfl (by kernel_rfl) (by kernel_rfl) (by kernel_rfl) (fun _ _ _ h => h) (Or.inl ⟨by rfl, ?_⟩) (by assumption) ?_
          rotate_left 1
          · (intro w' hSw; (try obtain ⟨s0, s1, s2, s3⟩ := hSw); go_simp; try (with_reducible rfl))
          try simp only [Act.put, List.setIfInBounds_toArray, List.set_cons_zero, List.set_cons_succ]
          refine wpAnyH_take (i := 34) (oi := { dst := some 102, op := Op.build 40 #[], type := 40, pos := "law.go:54", after := #[{ on := 32, ground := Ground.guard }], guard := some (32, true) }) (v := ?_) rfl (by kernel_rfl) (by kernel_rfl) (by kernel_rfl) (fun _ _ _ h => h) (Or.inl ⟨by rfl, ?_⟩) (by assumption) ?_
          rotate_left 1
          · (intro w' hSw; (try obtain ⟨s0, s1, s2, s3⟩ := hSw); go_simp; try (with_reducible rfl))
          try simp only [Act.put, List.setIfInBounds_toArray, List.set_cons_zero, List.set_cons_succ]
          refine wpAnyH_take (i := 35) (oi := { dst := some 103, op := Op.binOp BinOp.neq 40 (Operand.tmp 101) (Operand.tmp 102) 40, type := 4, pos := "law.go:54", after := #[{ on := 33, ground := Ground.data }, { on := 34, ground := Ground.data }, { on := 32, ground := Ground.guard }], guard := some (32, true) }) (v := ?_) rfl (by kernel_rfl) (by kernel_rfl) (by kernel_rfl) (fun _ _ _ h => h) (Or.inl ⟨by rfl, ?_⟩) (by assumption) ?_
          rotate_left 1
          · (intro w' hSw; (try obtain ⟨s0, s1, s2, s3⟩ := hSw); go_simp; try (with_reducible rfl))
          try simp only [Act.put, List.setIfInBounds_toArray, List.set_cons_zero, List.set_cons_succ]
          refine wpAnyH_take (i := 36) (oi := { dst := some 104, op := Op.pick (Operand.tmp 100) (Operand.tmp 103) (Operand.const (Value.bool false)), type := 4, pos := "law.go:54", after := #[{ on := 32, ground := Ground.data }, { on := 35, ground := Ground.data }, { on := 29, ground := Ground.guard }], guard := some (29, false) }) (v := ?_) rfl (by kernel_rfl) (by kernel_rfl) (by kernel_rfl) (fun _ _ _ h => h) (Or.inl ⟨by rfl, ?_⟩) (by assumption) ?_
          rotate_left 1
          · (intro w' hSw; (try obtain ⟨s0, s1, s2, s3⟩ := hSw); go_simp; try (with_reducible rfl))
          try simp only [Act.put, List.setIfInBounds_toArray, List.set_cons_zero, List.set_cons_succ]
          refine wpAnyH_take (i := 37) (oi := { dst := some 105, op := Op.pick (Operand.tmp 97) (Operand.const (Value.bool true)) (Operand.tmp 104), type := 4, pos := "law.go:54", after := #[{ on := 29, ground := Ground.data }, { on := 36, ground := Ground.data }], guard := none }) (v := ?_) rfl (by kernel_rfl) (by kernel_rfl) (by kernel_rfl) (fun _ _ _ h => h) (Or.inl ⟨by rfl, ?_⟩) (by assumption) ?_
          rotate_left 1
          · (intro w' hSw; (try obtain ⟨s0, s1, s2, s3⟩ := hSw); go_simp; try (with_reducible rfl))
          try simp only [Act.put, List.setIfInBounds_toArray, List.set_cons_zero, List.set_cons_succ]
          refine wpAnyH_take (i := 38) (oi := { dst := some 106, op := Op.move (Operand.tmp 105), type := 4, pos := "law.go:54", after := #[{ on := 37, ground := Ground.data }, { on := 32, ground := Ground.chain }], guard := none }) (v := ?_) rfl (by kernel_rfl) (by kernel_rfl) (by kernel_rfl) (fun _ _ _ h => h) (Or.inl ⟨by rfl, ?_⟩) (by assumption) ?_
          rotate_left 1
          · (intro w' hSw; (try obtain ⟨s0, s1, s2, s3⟩ := hSw); go_simp; try (with_reducible rfl))
          try simp only [Act.put, List.setIfInBounds_toArray, List.set_cons_zero, List.set_cons_succ]
          refine wpAnyH_take (i := 39) (oi := { dst := some 107, op := Op.move (Operand.tmp 0), type := 25, pos := "law.go:54", after := #[{ on := 38, ground := Ground.guard }], guard := some (38, false) }) (v := ?_) rfl (by kernel_rfl) (by kernel_rfl) (by kernel_rfl) (fun _ _ _ h => h) (Or.inl ⟨by rfl, ?_⟩) (by assumption) ?_
          rotate_left 1
          · (intro w' hSw; (try obtain ⟨s0, s1, s2, s3⟩ := hSw); go_simp; try (with_reducible rfl))
          try simp only [Act.put, List.setIfInBounds_toArray, List.set_cons_zero, List.set_cons_succ]
          refine wpAnyH_take (i := 40) (oi := { dst := some 108, op := Op.move (Operand.tmp 3), type := 9, pos := "law.go:54", after := #[{ on := 38, ground := Ground.guard }], guard := some (38, false) }) (v := ?_) rfl (by kernel_rfl) (by kernel_rfl) (by kernel_rfl) (fun _ _ _ h => h) (Or.inl ⟨by rfl, ?_⟩) (by assumption) ?_
          rotate_left 1
          · (intro w' hSw; (try obtain ⟨s0, s1, s2, s3⟩ := hSw); go_simp; try (with_reducible rfl))
          try simp only [Act.put, List.setIfInBounds_toArray, List.set_cons_zero, List.set_cons_succ]
          refine wpAnyH_take (i := 42) (oi := { dst := some 110, op := Op.load 29 (Operand.tmp 5), type := 29, pos := "law.go:54", after := #[{ on := 38, ground := Ground.guard }], guard := some (38, false) }) (v := ?_) rfl (by kernel_rfl) (by kernel_rfl) (by kernel_rfl) (fun _ _ _ h => h) (Or.inl ⟨by rfl, ?_⟩) (by assumption) ?_
          rotate_left 1
          · (intro w' hSw; (try obtain ⟨s0, s1, s2, s3⟩ := hSw); go_simp; try (with_reducible rfl))
          try simp only [Act.put, List.setIfInBounds_toArray, List.set_cons_zero, List.set_cons_succ]
          refine wpAnyH_take (i := 43) (oi := { dst := some 111, op := Op.move (Operand.tmp 3), type := 9, pos := "law.go:54", after := #[{ on := 38, ground := Ground.guard }], guard := some (38, false) }) (v := ?_) rfl (by kernel_rfl) (by kernel_rfl) (by kernel_rfl) (fun _ _ _ h => h) (Or.inl ⟨by rfl, ?_⟩) (by assumption) ?_
          rotate_left 1
          · (intro w' hSw; (try obtain ⟨s0, s1, s2, s3⟩ := hSw); go_simp; try (with_reducible rfl))
          try simp only [Act.put, List.setIfInBounds_toArray, List.set_cons_zero, List.set_cons_succ]
          refine wpAnyH_ready (rs := [41]) (by kernel_rfl) (by simp) ?_
          refine (AllReadyH.cons rfl (fun K hK => ?_) AllReadyH.nil)
          · skip
            go_simp
            first
              | (with_reducible refine (KL.out _ HBZ.out).mono ?_); rintro e wA ⟨v9, rfl, hrA, hbA⟩; have RA := Lib.hid hrA; have HBA := Lib.hid (HBZ.out.trans (hbA.mono HBZ.out.size)); clear hrA hbA
              | (with_reducible refine (KL.out _ HBB.out).mono ?_); rintro e wA ⟨v9, rfl, hrA, hbA⟩; have RAf := Lib.hid hrA; have RBf := Lib.hid (RowI.below RB.out hbA); have HBf := Lib.hid (HBB.out.trans (hbA.mono HBB.out.size)); clear hrA hbA
            clear hHeld
            refine hK.out _ _ ?_ (fun hHeld => ?_)
            · (try dsimp only); (first | exact HSX.out _ HBS.out | exact HSX.out _ HBf.out | exact HSX.out _ HBA.out | exact HSX.out _ HBB.out | exact HSX.out _ HBZ.out)
            clear hK K
            refine wpAnyH_ready (rs := [44]) (by kernel_rfl) (by simp) ?_
            refine (AllReadyH.cons rfl (fun K hK => ?_) AllReadyH.nil)
            · skip
              go_simp
              first
                | (with_reducible refine (KO.out _ HBZ.out).mono ?_); rintro e wB ⟨v10, rfl, hrB, hbB⟩; have RB := Lib.hid hrB; have HBB := Lib.hid (HBZ.out.trans (hbB.mono HBZ.out.size)); clear hrB hbB
                | (with_reducible refine (KO.out _ HBA.out).mono ?_); rintro e wB ⟨v10, rfl, hrB, hbB⟩; have RBf := Lib.hid hrB; have RAf := Lib.hid (RowI.below RA.out hbB); have HBf := Lib.hid (HBA.out.trans (hbB.mono HBA.out.size)); clear hrB hbB
              clear hHeld
              refine hK.out _ _ ?_ (fun hHeld => ?_)
              · (try dsimp only); (first | exact HSX.out _ HBS.out | exact HSX.out _ HBf.out | exact HSX.out _ HBA.out | exact HSX.out _ HBB.out | exact HSX.out _ HBZ.out)
              clear hK K
              refine wpAnyH_ready (rs := [45]) (by kernel_rfl) (by simp) ?_
              refine (AllReadyH.cons rfl (fun K hK => ?_) AllReadyH.nil)
              · skip
                go_simp
                refine (KS.out _ _ _ RAf.out RBf.out).mono ?_
                rintro e wS ⟨rfl, hbS⟩
                have HBS := Lib.hid (HBf.out.trans (hbS.mono HBf.out.size))
                clear hbS
                clear hHeld
                refine hK.out _ _ ?_ (fun hHeld => ?_)
                · (try dsimp only); (first | exact HSX.out _ HBS.out | exact HSX.out _ HBf.out | exact HSX.out _ HBA.out | exact HSX.out _ HBB.out | exact HSX.out _ HBZ.out)
                clear hK K
                refine wpAnyH_take (i := 46) (oi := { dst := some 114, op := Op.unOp UnOp.not 4 (Operand.tmp 113), type := 4, pos := "law.go:54", after := #[{ on := 45, ground := Ground.data }, { on := 38, ground := Ground.guard }], guard := some (38, false) }) (v := ?_) rfl (by kernel_rfl) (by kernel_rfl) (by kernel_rfl) (fun _ _ _ h => h) (Or.inl ⟨by rfl, ?_⟩) (by assumption) ?_
                rotate_left 1
                · (intro w' hSw; (try obtain ⟨s0, s1, s2, s3⟩ := hSw); go_simp; try (with_reducible rfl))
                try simp only [Act.put, List.setIfInBounds_toArray, List.set_cons_zero, List.set_cons_succ]
                refine wpAnyH_take (i := 47) (oi := { dst := some 115, op := Op.pick (Operand.tmp 106) (Operand.const (Value.bool true)) (Operand.tmp 114), type := 4, pos := "law.go:54", after := #[{ on := 38, ground := Ground.data }, { on := 46, ground := Ground.data }], guard := none }) (v := ?_) rfl (by kernel_rfl) (by kernel_rfl) (by kernel_rfl) (fun _ _ _ h => h) (Or.inl ⟨by rfl, ?_⟩) (by assumption) ?_
                rotate_left 1
                · (intro w' hSw; (try obtain ⟨s0, s1, s2, s3⟩ := hSw); go_simp; try (with_reducible rfl))
                try simp only [Act.put, List.setIfInBounds_toArray, List.set_cons_zero, List.set_cons_succ]
                refine wpAnyH_done (by kernel_rfl) ?_ _
                clear hHeld
                go_wp2_with fail
                go_meet
                exact ⟨rfl, HBZY.out.trans (HBS.out.mono HBZY.out.size)⟩
        case rest =>
        obtain ⟨rfl, hbv⟩ := hcut
        rename World => wv
        clear KO KL KS HBW HBD m0 m1 d0 d1 HSX HBZ HBZY
        have KE : Hid (∀ X, Below Y.heap.size Y X → Calls Try.prog 18 #[.pointer (some ⟨T, 0, none⟩)] X fun e W' => ∃ v, e = .returned v ∧ RowE W' Y.heap.size v (edgesR H L) ∧ Below X.heap.size X W') := fun X hX => by
          have hx := HA.out.below hX
          refine (edges_all hx.t hx.c hx.n4 hx.ql).mono ?_
          rintro e W' ⟨v, kl, rfl, hr, hkl, hb⟩
          rw [hx.two.edges hx.c hkl] at hr
          exact ⟨v, rfl, ⟨hr.1, hr.2.imp id fun ⟨g, cap, cur, q1, q2, q3⟩ => ⟨g, cap, cur, q1, Nat.le_trans hX.size q2, q3⟩⟩, hb⟩
        have KF : Hid (∀ X, Below Y.heap.size Y X → Calls Try.prog 26 #[.agg #[.slice aH H.length cH, .slice aL L.length cL]] X fun e W' => ∃ v, e = .returned v ∧ RowF W' Y.heap.size v (edgesR H L) ∧ Below X.heap.size X W') := fun X hX => by
          have hx := HA.out.below hX
          refine (edges14_any aH H cH aL L cL hx.lH hx.lL hx.hH hx.hL).mono ?_
          rintro e W' ⟨v, rfl, hr, hb⟩
          exact ⟨v, rfl, hr.mono hX.size, hb⟩
        have HBD : Hid (Below Y.heap.size Y wv.drew) := hbv.out.trans ((Below.refl wv.heap.size wv).drew.mono hbv.out.size)
        obtain ⟨d0, d1⟩ := HT.out _ HBD.out
        clear hbv
        go_upto_region 13 with fail
        go_cut [15, 16] from 116 to 119 (fun v15 v16 wy => Hid (RowE wy Y.heap.size v15 (edgesR H L)) ∧ Hid (RowF wy Y.heap.size v16 (edgesR H L)) ∧ Hid (Below Y.heap.size Y wy))
        case first =>
          go_region_law (first | (go_simp; go_at_call 18; (with_reducible refine (KE.out _ HBD.out).mono ?_); rintro e wA ⟨v9, rfl, hrA, hbA⟩; have RA := Lib.hid hrA; have HBA := Lib.hid (HBD.out.trans (hbA.mono HBD.out.size)); obtain ⟨dA0, dA1⟩ := HT.out _ HBA.out; clear hrA hbA; go_simp) | (go_simp; go_at_call 18; (with_reducible refine (KE.out _ HBB.out).mono ?_); rintro e wA ⟨v9, rfl, hrA, hbA⟩; have RAf := Lib.hid hrA; have RBf := Lib.hid (rowF_below RB.out hbA); have HBf := Lib.hid (HBB.out.trans (hbA.mono HBB.out.size)); clear hrA hbA; go_simp) | (go_simp; go_at_call 26; (with_reducible refine (KF.out _ HBD.out).mono ?_); rintro e wB ⟨v10, rfl, hrB, hbB⟩; have RB := Lib.hid hrB; have HBB := Lib.hid (HBD.out.trans (hbB.mono HBD.out.size)); obtain ⟨dB0, dB1⟩ := HT.out _ HBB.out; clear hrB hbB; go_simp) | (go_simp; go_at_call 26; (with_reducible refine (KF.out _ HBA.out).mono ?_); rintro e wB ⟨v10, rfl, hrB, hbB⟩; have RBf := Lib.hid hrB; have RAf := Lib.hid (rowE_below RA.out hbB); have HBf := Lib.hid (HBA.out.trans (hbB.mono HBA.out.size)); clear hrB hbB; go_simp))
          all_goals
            go_wp2_with fail
            go_meet
            exact ⟨RAf, RBf, HBf⟩
        case rest =>
        obtain ⟨r15, r16, hby⟩ := hcut
        rename World => wy
        have HR15 := r15
        have HR16 := r16
        have HBY := hby
        clear KE KF HBD d0 d1 r15 r16 hby
        obtain ⟨a15, c15, hv15, hc15⟩ := HR15.out.form
        obtain ⟨a16, c16, hv16, hc16⟩ := HR16.out.form
        have HC15 := Lib.hid hc15
        have HC16 := Lib.hid hc16
        have HEL := Lib.hid (rowE_len HR15.out)
        generalize edgesR H L = E at *
        subst hv15 hv16
        have hel := HEL.out
        unfold maxLen at hel
        have heli : (E.length : Int) ≤ 9223372036854775807 := by omega
        have S0 : Hid (Below wy.heap.size wy wy) := Below.refl _ _
        clear hc15 hc16 hel
        go_wp2
        go_loopw [17] (fun i wr => ∃ j : Nat, i = .int .i64 (j : Int) ∧ j ≤ E.length ∧ Hid (Below wy.heap.size wy wr)) (fun i _ => E.length - (intOf i).toNat)
        case atStart => exact ⟨0, rfl, Nat.zero_le _, S0⟩
        case round =>
          obtain ⟨j, rfl, hj, hb⟩ := hrel
          rename World => wr
          clear S0
          by_cases hlt : j < E.length
          · obtain ⟨g15, e15, eo15, hx15⟩ := HC15.out j hlt
            obtain ⟨g16, e16, eo16, hx16⟩ := HC16.out j hlt
            obtain ⟨p0, p1⟩ := hx15 wr (hb.out.block g15 (World.ownsRow.lt HR15.out g15 eo15).2)
            obtain ⟨q0, q1⟩ := hx16 wr (hb.out.block g16 (World.ownsRow.lt HR16.out g16 eo16).2)
            have HLT := Lib.hid hlt
            have hji : (j : Int) < (E.length : Int) := by omega
            have hjn : (0 : Int) ≤ (j : Int) := Int.natCast_nonneg _
            have HNB := Lib.hid (fun n => below_drewN hb.out n)
            subst e15 e16
            clear hx15 hx16
            generalize E[j] = x at *
            obtain ⟨x1, x2⟩ := x
            replace p0 : wr.cell? ⟨g15, j * 2, none⟩ = some (.int .i64 x1) := p0
            replace p1 : wr.cell? ⟨g15, j * 2 + 1, none⟩ = some (.int .i64 x2) := p1
            replace q0 : wr.cell? ⟨g16, j * 2, none⟩ = some (.int .i64 x1) := q0
            replace q1 : wr.cell? ⟨g16, j * 2 + 1, none⟩ = some (.int .i64 x2) := q1
            go_upto_region 19 with fail
            go_quiet (fail)
            go_wp2
            go_roundw
            case rel => exact ⟨j + 1, by go_num, HLT.out, HNB.out _⟩
            case measure => simp [intOf]; have := HLT.out; omega
          · obtain rfl : j = E.length := by omega
            have HBR2 := Lib.hid (HBY.out.trans (hb.out.mono HBY.out.size))
            have HQ := Lib.hid (HB.out.trans (HBR2.out.mono HB.out.size))
            clear HR15 HR16 hb
            go_wp2
            go_ret
            exact ⟨rfl, by first | exact HQ.out | (rw [hN2.out]; exact HQ.out)⟩
      | some w =>
        obtain ⟨hkw, i3, hi3, hq3⟩ := HA.out.c.ok.w1 o w hw
        have KW := Lib.hid (waits_yes (HA.out.below HBR.out).t HWF.out hw ((HA.out.below HBR.out).t.wc i3 _ w (lt3 hi3) hq3))
        obtain ⟨p, hp, ep, epw⟩ := (HA.out.two).w1 HA.out.c hw
        go_upto_region 9 with fail
        go_wp2_with fail
        refine KW.out.mono ?_
        rintro e wa ⟨rfl, hba⟩
        have HBA0 := HBR.out.trans (hba.mono HBR.out.size)
        have hbc : Below wa.heap.size wa (wa.alloc (.cells #[(.string (s.con w).k), (.bool (s.con w).wr)] 40)) := (Below.refl _ _).alloc (Nat.le_refl _) _
        have HBC := Lib.hid (HBA0.trans (hbc.mono HBA0.size))
        have g0 : (wa.alloc (.cells #[(.string (s.con w).k), (.bool (s.con w).wr)] 40)).cell? ⟨wa.heap.size, 0, none⟩ = some (.string (s.con w).k) := new_cell rfl rfl
        have g1 : (wa.alloc (.cells #[(.string (s.con w).k), (.bool (s.con w).wr)] 40)).cell? ⟨wa.heap.size, 1, none⟩ = some (.bool (s.con w).wr) := new_cell rfl rfl
        clear KW hba HBA0 hbc
        go_upto_region 10 with fail
        generalize wa.alloc (.cells #[(.string (s.con w).k), (.bool (s.con w).wr)] 40) = wc at *
        generalize wa.heap.size = M at *
        obtain ⟨t0, t1⟩ := HT.out wc HBC.out
        have hpn : (0 : Int) ≤ (p : Int) := Int.natCast_nonneg _
        have hpi : (p : Int) < (L.length : Int) := by omega
        have KX := Lib.hid (waits14_any (W := wc) aH H cH aL L cL o (by have := HLH.out.2; omega) (HA.out.below HBC.out).hL)
        unfold tabV at KX
        rw [ep] at KX
        go_wp2_with fail
        refine KX.out.mono ?_
        rintro e wd ⟨rfl, hbd⟩
        have HBW := Lib.hid (HBC.out.trans (hbd.mono HBC.out.size))
        have HBD : Hid (Below Y.heap.size Y wd.drew) := HBW.out.trans ((Below.refl wd.heap.size wd).drew.mono HBW.out.size)
        have hbq : Below wc.heap.size wc wd.drew := hbd.trans ((Below.refl wd.heap.size wd).drew.mono hbd.size)
        have m0 := keep_cell hbq g0
        have m1 := keep_cell hbq g1
        obtain ⟨d0, d1⟩ := HT.out _ HBD.out
        clear KX g0 g1 t0 t1 hbd hbq
        obtain ⟨bl, ol, rfl, k0, k1, k2⟩ := (HA.out.below HBD.out).hL.cell hp
        rw [epw] at k1 k2
        clear k0 epw ep
        have hkk : (s.con w).k = (s.con w).k := rfl
        generalize (s.con w).k = xk at *
        generalize (s.con w).wr = xw at *
        have hsk : (xk.toList == xk.toList) = true := beq_self_eq_true _
        clear hkk
        cases xw with
        | false =>
          go_upto_region 11 with fail
          have HBZY := HBD
          have HSX : Hid (∀ X, Below wd.drew.heap.size wd.drew X → ((fun w' => w'.cell? ⟨N, 0, none⟩ = some (.slice aH H.length cH) ∧ w'.cell? ⟨N, 1, none⟩ = some (.slice (some ⟨bl, ol, none⟩) L.length cL) ∧ w'.cell? ⟨M, 0, none⟩ = some (.string xk) ∧ w'.cell? ⟨M, 1, none⟩ = some (.bool false) ∧ w'.cell? ⟨bl, ol + p * 3 + 1, none⟩ = some (.string xk) ∧ w'.cell? ⟨bl, ol + p * 3 + 2, none⟩ = some (.bool false)) X)) := fun X hX => ⟨keep_cell hX d0, keep_cell hX d1, keep_cell hX m0, keep_cell hX m1, keep_cell hX k1, keep_cell hX k2⟩
          have HBZ : Hid (Below wd.drew.heap.size wd.drew wd.drew) := Below.refl _ _
          replace KL := Lib.hid (fun X (hX : Below wd.drew.heap.size wd.drew X) => KL.out X (HBZY.out.trans (hX.mono HBZY.out.size)))
          replace KO := Lib.hid (fun X (hX : Below wd.drew.heap.size wd.drew X) => KO.out X (HBZY.out.trans (hX.mono HBZY.out.size)))
          go_cut [115] from 68 to 114 (fun v wv => v = .bool false ∧ Hid (Below Y.heap.size Y wv))
          case first =>
            refine wp_region_held_drew (S := (fun w' => w'.cell? ⟨N, 0, none⟩ = some (.slice aH H.length cH) ∧ w'.cell? ⟨N, 1, none⟩ = some (.slice (some ⟨bl, ol, none⟩) L.length cL) ∧ w'.cell? ⟨M, 0, none⟩ = some (.string xk) ∧ w'.cell? ⟨M, 1, none⟩ = some (.bool false) ∧ w'.cell? ⟨bl, ol + p * 3 + 1, none⟩ = some (.string xk) ∧ w'.cell? ⟨bl, ol + p * 3 + 2, none⟩ = some (.bool false))) (by kernel_rfl) ?_ (fun hHeld => ?_)
            · (try dsimp only); (first | exact HSX.out _ HBS.out | exact HSX.out _ HBf.out | exact HSX.out _ HBA.out | exact HSX.out _ HBB.out | exact HSX.out _ HBZ.out)
            refine wpAnyH_take (i := 0) (oi := { dst := some 68, op := Op.move (Operand.tmp 13), type := 4, pos := "law.go:54", after := #[], guard := none }) (v := ?_) rfl (by kernel_rfl) (by kernel_rfl) (by kernel_rfl) (fun _ _ _ h => h) (Or.inl ⟨by rfl, ?_⟩) (by assumption) ?_
            rotate_left 1
            · (intro w' hSw; (try obtain ⟨s0, s1, s2, s3, s4, s5⟩ := hSw); go_simp; try (with_reducible rfl))
            try simp only [Act.put, List.setIfInBounds_toArray, List.set_cons_zero, List.set_cons_succ]
            refine wpAnyH_take (i := 1) (oi := { dst := some 69, op := Op.move (Operand.tmp 14), type := 3, pos := "law.go:54", after := #[], guard := none }) (v := ?_) rfl (by kernel_rfl) (by kernel_rfl) (by kernel_rfl) (fun _ _ _ h => h) (Or.inl ⟨by rfl, ?_⟩) (by assumption) ?_
            rotate_left 1
            · (intro w' hSw; (try obtain ⟨s0, s1, s2, s3, s4, s5⟩ := hSw); go_simp; try (with_reducible rfl))
            try simp only [Act.put, List.setIfInBounds_toArray, List.set_cons_zero, List.set_cons_succ]
            refine wpAnyH_take (i := 2) (oi := { dst := some 70, op := Op.binOp BinOp.geq 3 (Operand.tmp 69) (Operand.const (Value.int IntKind.i64 0)) 3, type := 4, pos := "law.go:54", after := #[{ on := 1, ground := Ground.data }], guard := none }) (v := ?_) rfl (by kernel_rfl) (by kernel_rfl) (by kernel_rfl) (fun _ _ _ h => h) (Or.inl ⟨by rfl, ?_⟩) (by assumption) ?_
            rotate_left 1
            · (intro w' hSw; (try obtain ⟨s0, s1, s2, s3, s4, s5⟩ := hSw); go_simp; try (with_reducible rfl))
            try simp only [Act.put, List.setIfInBounds_toArray, List.set_cons_zero, List.set_cons_succ]
            refine wpAnyH_take (i := 3) (oi := { dst := some 71, op := Op.binOp BinOp.neq 4 (Operand.tmp 68) (Operand.tmp 70) 4, type := 4, pos := "law.go:54", after := #[{ on := 0, ground := Ground.data }, { on := 2, ground := Ground.data }], guard := none }) (v := ?_) rfl (by kernel_rfl) (by kernel_rfl) (by kernel_rfl) (fun _ _ _ h => h) (Or.inl ⟨by rfl, ?_⟩) (by assumption) ?_
            rotate_left 1
            · (intro w' hSw; (try obtain ⟨s0, s1, s2, s3, s4, s5⟩ := hSw); go_simp; try (with_reducible rfl))
            try simp only [Act.put, List.setIfInBounds_toArray, List.set_cons_zero, List.set_cons_succ]
            refine wpAnyH_take (i := 4) (oi := { dst := some 72, op := Op.move (Operand.tmp 71), type := 4, pos := "law.go:54", after := #[{ on := 3, ground := Ground.data }], guard := none }) (v := ?_) rfl (by kernel_rfl) (by kernel_rfl) (by kernel_rfl) (fun _ _ _ h => h) (Or.inl ⟨by rfl, ?_⟩) (by assumption) ?_
            rotate_left 1
            · (intro w' hSw; (try obtain ⟨s0, s1, s2, s3, s4, s5⟩ := hSw); go_simp; try (with_reducible rfl))
            try simp only [Act.put, List.setIfInBounds_toArray, List.set_cons_zero, List.set_cons_succ]
            refine wpAnyH_take (i := 5) (oi := { dst := some 73, op := Op.move (Operand.tmp 13), type := 4, pos := "law.go:54", after := #[{ on := 4, ground := Ground.guard }], guard := some (4, false) }) (v := ?_) rfl (by kernel_rfl) (by kernel_rfl) (by kernel_rfl) (fun _ _ _ h => h) (Or.inl ⟨by rfl, ?_⟩) (by assumption) ?_
            rotate_left 1
            · (intro w' hSw; (try obtain ⟨s0, s1, s2, s3, s4, s5⟩ := hSw); go_simp; try (with_reducible rfl))
            try simp only [Act.put, List.setIfInBounds_toArray, List.set_cons_zero, List.set_cons_succ]
            refine wpAnyH_take (i := 6) (oi := { dst := some 74, op := Op.move (Operand.tmp 73), type := 4, pos := "law.go:54", after := #[{ on := 5, ground := Ground.data }, { on := 4, ground := Ground.chain }, { on := 4, ground := Ground.guard }], guard := some (4, false) }) (v := ?_) rfl (by kernel_rfl) (by kernel_rfl) (by kernel_rfl) (fun _ _ _ h => h) (Or.inl ⟨by rfl, ?_⟩) (by assumption) ?_
            rotate_left 1
            · (intro w' hSw; (try obtain ⟨s0, s1, s2, s3, s4, s5⟩ := hSw); go_simp; try (with_reducible rfl))
            try simp only [Act.put, List.setIfInBounds_toArray, List.set_cons_zero, List.set_cons_succ]
            refine wpAnyH_take (i := 7) (oi := { dst := some 75, op := Op.fieldAddr 40 (Operand.tmp 12) 0, type := 0, pos := "law.go:54", after := #[{ on := 6, ground := Ground.guard }], guard := some (6, true) }) (v := ?_) rfl (by kernel_rfl) (by kernel_rfl) (by kernel_rfl) (fun _ _ _ h => h) (Or.inl ⟨by rfl, ?_⟩) (by assumption) ?_
            rotate_left 1
            · (intro w' hSw; (try obtain ⟨s0, s1, s2, s3, s4, s5⟩ := hSw); go_simp; try (with_reducible rfl))
            try simp only [Act.put, List.setIfInBounds_toArray, List.set_cons_zero, List.set_cons_succ]
            refine wpAnyH_take (i := 8) (oi := { dst := some 76, op := Op.load 9 (Operand.tmp 75), type := 9, pos := "law.go:54", after := #[{ on := 7, ground := Ground.data }, { on := 6, ground := Ground.guard }], guard := some (6, true) }) (v := ?_) rfl (by kernel_rfl) (by kernel_rfl) (by kernel_rfl) (fun _ _ _ h => h) (Or.inl ⟨by rfl, ?_⟩) (by assumption) ?_
            rotate_left 1
            · (intro w' hSw; (try obtain ⟨s0, s1, s2, s3, s4, s5⟩ := hSw); go_simp; try (with_reducible rfl))
            try simp only [Act.put, List.setIfInBounds_toArray, List.set_cons_zero, List.set_cons_succ]
            refine wpAnyH_take (i := 9) (oi := { dst := some 77, op := Op.fieldAddr 29 (Operand.tmp 5) 1, type := 0, pos := "law.go:54", after := #[{ on := 6, ground := Ground.guard }], guard := some (6, true) }) (v := ?_) rfl (by kernel_rfl) (by kernel_rfl) (by kernel_rfl) (fun _ _ _ h => h) (Or.inl ⟨by rfl, ?_⟩) (by assumption) ?_
            rotate_left 1
            · (intro w' hSw; (try obtain ⟨s0, s1, s2, s3, s4, s5⟩ := hSw); go_simp; try (with_reducible rfl))
            try simp only [Act.put, List.setIfInBounds_toArray, List.set_cons_zero, List.set_cons_succ]
            refine wpAnyH_take (i := 10) (oi := { dst := some 78, op := Op.load 27 (Operand.tmp 77), type := 27, pos := "law.go:54", after := #[{ on := 9, ground := Ground.data }, { on := 6, ground := Ground.guard }], guard := some (6, true) }) (v := ?_) rfl (by kernel_rfl) (by kernel_rfl) (by kernel_rfl) (fun _ _ _ h => h) (Or.inl ⟨by rfl, ?_⟩) (by assumption) ?_
            rotate_left 1
            · (intro w' hSw; (try obtain ⟨s0, s1, s2, s3, s4, s5⟩ := hSw); go_simp; try (with_reducible rfl))
            try simp only [Act.put, List.setIfInBounds_toArray, List.set_cons_zero, List.set_cons_succ]
            refine wpAnyH_take (i := 11) (oi := { dst := some 79, op := Op.move (Operand.tmp 14), type := 3, pos := "law.go:54", after := #[{ on := 6, ground := Ground.guard }], guard := some (6, true) }) (v := ?_) rfl (by kernel_rfl) (by kernel_rfl) (by kernel_rfl) (fun _ _ _ h => h) (Or.inl ⟨by rfl, ?_⟩) (by assumption) ?_
            rotate_left 1
            · (intro w' hSw; (try obtain ⟨s0, s1, s2, s3, s4, s5⟩ := hSw); go_simp; try (with_reducible rfl))
            try simp only [Act.put, List.setIfInBounds_toArray, List.set_cons_zero, List.set_cons_succ]
            refine wpAnyH_take (i := 12) (oi := { dst := some 80, op := Op.indexAddr 27 (Operand.tmp 78) (Operand.tmp 79), type := 0, pos := "law.go:54", after := #[{ on := 10, ground := Ground.data }, { on := 11, ground := Ground.data }, { on := 6, ground := Ground.guard }], guard := some (6, true) }) (v := ?_) rfl (by kernel_rfl) (by kernel_rfl) (by kernel_rfl) (fun _ _ _ h => h) (Or.inl ⟨by rfl, ?_⟩) (by assumption) ?_
            rotate_left 1
            · (intro w' hSw; (try obtain ⟨s0, s1, s2, s3, s4, s5⟩ := hSw); go_simp; try (with_reducible rfl))
            try simp only [Act.put, List.setIfInBounds_toArray, List.set_cons_zero, List.set_cons_succ]
            refine wpAnyH_take (i := 13) (oi := { dst := some 81, op := Op.fieldAddr 67 (Operand.tmp 80) 1, type := 0, pos := "law.go:54", after := #[{ on := 12, ground := Ground.data }, { on := 6, ground := Ground.guard }], guard := some (6, true) }) (v := ?_) rfl (by kernel_rfl) (by kernel_rfl) (by kernel_rfl) (fun _ _ _ h => h) (Or.inl ⟨by rfl, ?_⟩) (by assumption) ?_
            rotate_left 1
            · (intro w' hSw; (try obtain ⟨s0, s1, s2, s3, s4, s5⟩ := hSw); go_simp; try (with_reducible rfl))
            try simp only [Act.put, List.setIfInBounds_toArray, List.set_cons_zero, List.set_cons_succ]
            refine wpAnyH_take (i := 14) (oi := { dst := some 82, op := Op.load 9 (Operand.tmp 81), type := 9, pos := "law.go:54", after := #[{ on := 13, ground := Ground.data }, { on := 6, ground := Ground.guard }], guard := some (6, true) }) (v := ?_) rfl (by kernel_rfl) (by kernel_rfl) (by kernel_rfl) (fun _ _ _ h => h) (Or.inl ⟨by rfl, ?_⟩) (by assumption) ?_
            rotate_left 1
            · (intro w' hSw; (try obtain ⟨s0, s1, s2, s3, s4, s5⟩ := hSw); go_simp; try (with_reducible rfl))
            try simp only [Act.put, List.setIfInBounds_toArray, List.set_cons_zero, List.set_cons_succ]
            refine wpAnyH_take (i := 15) (oi := { dst := some 83, op := Op.binOp BinOp.neq 9 (Operand.tmp 76) (Operand.tmp 82) 9, type := 4, pos := "law.go:54", after := #[{ on := 8, ground := Ground.data }, { on := 14, ground := Ground.data }, { on := 6, ground := Ground.guard }], guard := some (6, true) }) (v := ?_) rfl (by kernel_rfl) (by kernel_rfl) (by kernel_rfl) (fun _ _ _ h => h) (Or.inl ⟨by rfl, ?_⟩) (by assumption) ?_
            rotate_left 1
            · (intro w' hSw; (try obtain ⟨s0, s1, s2, s3, s4, s5⟩ := hSw); go_simp; try (with_reducible rfl))
            try simp only [Act.put, List.setIfInBounds_toArray, List.set_cons_zero, List.set_cons_succ]
            refine wpAnyH_take (i := 16) (oi := { dst := some 84, op := Op.move (Operand.tmp 83), type := 4, pos := "law.go:54", after := #[{ on := 15, ground := Ground.data }, { on := 6, ground := Ground.chain }, { on := 6, ground := Ground.guard }], guard := some (6, true) }) (v := ?_) rfl (by kernel_rfl) (by kernel_rfl) (by kernel_rfl) (fun _ _ _ h => h) (Or.inl ⟨by rfl, ?_⟩) (by assumption) ?_
            rotate_left 1
            · (intro w' hSw; (try obtain ⟨s0, s1, s2, s3, s4, s5⟩ := hSw); go_simp; try (with_reducible rfl))
            try simp only [Act.put, List.setIfInBounds_toArray, List.set_cons_zero, List.set_cons_succ]
            refine wpAnyH_take (i := 17) (oi := { dst := some 85, op := Op.fieldAddr 40 (Operand.tmp 12) 1, type := 0, pos := "law.go:54", after := #[{ on := 16, ground := Ground.guard }], guard := some (16, false) }) (v := ?_) rfl (by kernel_rfl) (by kernel_rfl) (by kernel_rfl) (fun _ _ _ h => h) (Or.inl ⟨by rfl, ?_⟩) (by assumption) ?_
            rotate_left 1
            · (intro w' hSw; (try obtain ⟨s0, s1, s2, s3, s4, s5⟩ := hSw); go_simp; try (with_reducible rfl))
            try simp only [Act.put, List.setIfInBounds_toArray, List.set_cons_zero, List.set_cons_succ]
            refine wpAnyH_take (i := 18) (oi := { dst := some 86, op := Op.load 4 (Operand.tmp 85), type := 4, pos := "law.go:54", after := #[{ on := 17, ground := Ground.data }, { on := 16, ground := Ground.guard }], guard := some (16, false) }) (v := ?_) rfl (by kernel_rfl) (by kernel_rfl) (by kernel_rfl) (fun _ _ _ h => h) (Or.inl ⟨by rfl, ?_⟩) (by assumption) ?_
            rotate_left 1
            · (intro w' hSw; (try obtain ⟨s0, s1, s2, s3, s4, s5⟩ := hSw); go_simp; try (with_reducible rfl))
            try simp only [Act.put, List.setIfInBounds_toArray, List.set_cons_zero, List.set_cons_succ]
            refine wpAnyH_take (i := 19) (oi := { dst := some 87, op := Op.fieldAddr 29 (Operand.tmp 5) 1, type := 0, pos := "law.go:54", after := #[{ on := 16, ground := Ground.guard }], guard := some (16, false) }) (v := ?_) rfl (by kernel_rfl) (by kernel_rfl) (by kernel_rfl) (fun _ _ _ h => h) (Or.inl ⟨by rfl, ?_⟩) (by assumption) ?_
            rotate_left 1
            · (intro w' hSw; (try obtain ⟨s0, s1, s2, s3, s4, s5⟩ := hSw); go_simp; try (with_reducible rfl))
            try simp only [Act.put, List.setIfInBounds_toArray, List.set_cons_zero, List.set_cons_succ]
            refine wpAnyH_take (i := 20) (oi := { dst := some 88, op := Op.load 27 (Operand.tmp 87), type := 27, pos := "law.go:54", after := #[{ on := 19, ground := Ground.data }, { on := 16, ground := Ground.guard }], guard := some (16, false) }) (v := ?_) rfl (by kernel_rfl) (by kernel_rfl) (by kernel_rfl) (fun _ _ _ h => h) (Or.inl ⟨by rfl, ?_⟩) (by assumption) ?_
            rotate_left 1
            · (intro w' hSw; (try obtain ⟨s0, s1, s2, s3, s4, s5⟩ := hSw); go_simp; try (with_reducible rfl))
            try simp only [Act.put, List.setIfInBounds_toArray, List.set_cons_zero, List.set_cons_succ]
            refine wpAnyH_take (i := 21) (oi := { dst := some 89, op := Op.move (Operand.tmp 14), type := 3, pos := "law.go:54", after := #[{ on := 16, ground := Ground.guard }], guard := some (16, false) }) (v := ?_) rfl (by kernel_rfl) (by kernel_rfl) (by kernel_rfl) (fun _ _ _ h => h) (Or.inl ⟨by rfl, ?_⟩) (by assumption) ?_
            rotate_left 1
            · (intro w' hSw; (try obtain ⟨s0, s1, s2, s3, s4, s5⟩ := hSw); go_simp; try (with_reducible rfl))
            try simp only [Act.put, List.setIfInBounds_toArray, List.set_cons_zero, List.set_cons_succ]
            refine wpAnyH_take (i := 22) (oi := { dst := some 90, op := Op.indexAddr 27 (Operand.tmp 88) (Operand.tmp 89), type := 0, pos := "law.go:54", after := #[{ on := 20, ground := Ground.data }, { on := 21, ground := Ground.data }, { on := 16, ground := Ground.guard }], guard := some (16, false) }) (v := ?_) rfl (by kernel_rfl) (by kernel_rfl) (by kernel_rfl) (fun _ _ _ h => h) (Or.inl ⟨by rfl, ?_⟩) (by assumption) ?_
            rotate_left 1
            · (intro w' hSw; (try obtain ⟨s0, s1, s2, s3, s4, s5⟩ := hSw); go_simp; try (with_reducible rfl))
            try simp only [Act.put, List.setIfInBounds_toArray, List.set_cons_zero, List.set_cons_succ]
            refine wpAnyH_take (i := 23) (oi := { dst := some 91, op := Op.fieldAddr 67 (Operand.tmp 90) 2, type := 0, pos := "law.go:54", after := #[{ on := 22, ground := Ground.data }, { on := 16, ground := Ground.guard }], guard := some (16, false) }) (v := ?_) rfl (by kernel_rfl) (by kernel_rfl) (by kernel_rfl) (fun _ _ _ h => h) (Or.inl ⟨by rfl, ?_⟩) (by assumption) ?_
            rotate_left 1
            · (intro w' hSw; (try obtain ⟨s0, s1, s2, s3, s4, s5⟩ := hSw); go_simp; try (with_reducible rfl))
            try simp only [Act.put, List.setIfInBounds_toArray, List.set_cons_zero, List.set_cons_succ]
            refine wpAnyH_take (i := 24) (oi := { dst := some 92, op := Op.load 4 (Operand.tmp 91), type := 4, pos := "law.go:54", after := #[{ on := 23, ground := Ground.data }, { on := 16, ground := Ground.guard }], guard := some (16, false) }) (v := ?_) rfl (by kernel_rfl) (by kernel_rfl) (by kernel_rfl) (fun _ _ _ h => h) (Or.inl ⟨by rfl, ?_⟩) (by assumption) ?_
            rotate_left 1
            · (intro w' hSw; (try obtain ⟨s0, s1, s2, s3, s4, s5⟩ := hSw); go_simp; try (with_reducible rfl))
            try simp only [Act.put, List.setIfInBounds_toArray, List.set_cons_zero, List.set_cons_succ]
            refine wpAnyH_take (i := 25) (oi := { dst := some 93, op := Op.binOp BinOp.neq 4 (Operand.tmp 86) (Operand.tmp 92) 4, type := 4, pos := "law.go:54", after := #[{ on := 18, ground := Ground.data }, { on := 24, ground := Ground.data }, { on := 16, ground := Ground.guard }], guard := some (16, false) }) (v := ?_) rfl (by kernel_rfl) (by kernel_rfl) (by kernel_rfl) (fun _ _ _ h => h) (Or.inl ⟨by rfl, ?_⟩) (by assumption) ?_
            rotate_left 1
            · (intro w' hSw; (try obtain ⟨s0, s1, s2, s3, s4, s5⟩ := hSw); go_simp; try (with_reducible rfl))
            try simp only [Act.put, List.setIfInBounds_toArray, List.set_cons_zero, List.set_cons_succ]
            refine wpAnyH_take (i := 26) (oi := { dst := some 94, op := Op.pick (Operand.tmp 84) (Operand.const (Value.bool true)) (Operand.tmp 93), type := 4, pos := "law.go:54", after := #[{ on := 16, ground := Ground.data }, { on := 25, ground := Ground.data }, { on := 6, ground := Ground.guard }], guard := some (6, true) }) (v := ?_) rfl (by kernel_rfl) (by kernel_rfl) (by kernel_rfl) (fun _ _ _ h => h) (Or.inl ⟨by rfl, ?_⟩) (by assumption) ?_
            rotate_left 1
            · (intro w' hSw; (try obtain ⟨s0, s1, s2, s3, s4, s5⟩ := hSw); go_simp; try (with_reducible rfl))
            try simp only [Act.put, List.setIfInBounds_toArray, List.set_cons_zero, List.set_cons_succ]
            refine wpAnyH_take (i := 27) (oi := { dst := some 95, op := Op.pick (Operand.tmp 74) (Operand.tmp 94) (Operand.const (Value.bool false)), type := 4, pos := "law.go:54", after := #[{ on := 6, ground := Ground.data }, { on := 26, ground := Ground.data }, { on := 4, ground := Ground.guard }], guard := some (4, false) }) (v := ?_) rfl (by kernel_rfl) (by kernel_rfl) (by kernel_rfl) (fun _ _ _ h => h) (Or.inl ⟨by rfl, ?_⟩) (by assumption) ?_
            rotate_left 1
            · (intro w' hSw; (try obtain ⟨s0, s1, s2, s3, s4, s5⟩ := hSw); go_simp; try (with_reducible rfl))
            try simp only [Act.put, List.setIfInBounds_toArray, List.set_cons_zero, List.set_cons_succ]
            refine wpAnyH_take (i := 28) (oi := { dst := some 96, op := Op.pick (Operand.tmp 72) (Operand.const (Value.bool true)) (Operand.tmp 95), type := 4, pos := "law.go:54", after := #[{ on := 4, ground := Ground.data }, { on := 27, ground := Ground.data }], guard := none }) (v := ?_) rfl (by kernel_rfl) (by kernel_rfl) (by kernel_rfl) (fun _ _ _ h => h) (Or.inl ⟨by rfl, ?_⟩) (by assumption) ?_
            rotate_left 1
            · (intro w' hSw; (try obtain ⟨s0, s1, s2, s3, s4, s5⟩ := hSw); go_simp; try (with_reducible rfl))
            try simp only [Act.put, List.setIfInBounds_toArray, List.set_cons_zero, List.set_cons_succ]
            refine wpAnyH_take (i := 29) (oi := { dst := some 97, op := Op.move (Operand.tmp 96), type := 4, pos := "law.go:54", after := #[{ on := 28, ground := Ground.data }, { on := 16, ground := Ground.chain }], guard := none }) (v := ?_) rfl (by kernel_rfl) (by kernel_rfl) (by kernel_rfl) (fun _ _ _ h => h) (Or.inl ⟨by rfl, ?_⟩) (by assumption) ?_
            rotate_left 1
            · (intro w' hSw; (try obtain ⟨s0, s1, s2, s3, s4, s5⟩ := hSw); go_simp; try (with_reducible rfl))
            try simp only [Act.put, List.setIfInBounds_toArray, List.set_cons_zero, List.set_cons_succ]
            refine wpAnyH_take (i := 30) (oi := { dst := some 98, op := Op.move (Operand.tmp 13), type := 4, pos := "law.go:54", after := #[{ on := 29, ground := Ground.guard }], guard := some (29, false) }) (v := ?_) rfl (by kernel_rfl) (by kernel_rfl) (by kernel_rfl) (fun _ _ _ h => h) (Or.inl ⟨by rfl, ?_⟩) (by assumption) ?_
            rotate_left 1
            · (intro w' hSw; (try obtain ⟨s0, s1, s2, s3, s4, s5⟩ := hSw); go_simp; try (with_reducible rfl))
            try simp only [Act.put, List.setIfInBounds_toArray, List.set_cons_zero, List.set_cons_succ]
            refine wpAnyH_take (i := 31) (oi := { dst := some 99, op := Op.unOp UnOp.not 4 (Operand.tmp 98), type := 4, pos := "law.go:54", after := #[{ on := 30, ground := Ground.data }, { on := 29, ground := Ground.guard }], guard := some (29, false) }) (v := ?_) rfl (by kernel_rfl) (by kernel_rfl) (by kernel_rfl) (fun _ _ _ h => h) (Or.inl ⟨by rfl, ?_⟩) (by assumption) ?_
            rotate_left 1
            · (intro w' hSw; (try obtain ⟨s0, s1, s2, s3, s4, s5⟩ := hSw); go_simp; try (with_reducible rfl))
            try simp only [Act.put, List.setIfInBounds_toArray, List.set_cons_zero, List.set_cons_succ]
            refine wpAnyH_take (i := 32) (oi := { dst := some 100, op := Op.move (Operand.tmp 99), type := 4, pos := "law.go:54", after := #[{ on := 31, ground := Ground.data }, { on := 29, ground := Ground.chain }, { on := 29, ground := Ground.guard }], guard := some (29, false) }) (v := ?_) rfl (by kernel_rfl) (by kernel_rfl) (by kernel_rfl) (fun _ _ _ h => h) (Or.inl ⟨by rfl, ?_⟩) (by assumption) ?_
            rotate_left 1
            · (intro w' hSw; (try obtain ⟨s0, s1, s2, s3, s4, s5⟩ := hSw); go_simp; try (with_reducible rfl))
            try simp only [Act.put, List.setIfInBounds_toArray, List.set_cons_zero, List.set_cons_succ]
            refine wpAnyH_take (i := 33) (oi := { dst := some 101, op := Op.load 40 (Operand.tmp 12), type := 40, pos := "law.go:54", after := #[{ on := 32, ground := Ground.guard }], guard := some (32, true) }) (v := undef) rfl (by kernel_rfl) (by kernel_rfl) (by kernel_rfl) (fun _ _ _ h => h) (Or.inr ⟨by rfl, rfl⟩) (by assumption) ?_
            try simp only [Act.put, List.setIfInBounds_toArray, List.set_cons_zero, List.set_cons_succ]
            refine wpAnyH_take (i := 34) (oi := { dst := some 102, op := Op.build 40 #[], type := 40, pos := "law.go:54", after := #[{ on := 32, ground := Ground.guard }], guard := some (32, true) }) (v := undef) rfl (by kernel_rfl) (by kernel_rfl) (by kernel_rfl) (fun _ _ _ h => h) (Or.inr ⟨by rfl, rfl⟩) (by assumption) ?_
            try simp only [Act.put, List.setIfInBounds_toArray, List.set_cons_zero, List.set_cons_succ]
            refine wpAnyH_take (i := 35) (oi := { dst := some 103, op := Op.binOp BinOp.neq 40 (Operand.tmp 101) (Operand.tmp 102) 40, type := 4, pos := "law.go:54", after := #[{ on := 33, ground := Ground.data }, { on := 34, ground := Ground.data }, { on := 32, ground := Ground.guard }], guard := some (32, true) }) (v := undef) rfl (by kernel_rfl) (by kernel_rfl) (by kernel_rfl) (fun _ _ _ h => h) (Or.inr ⟨by rfl, rfl⟩) (by assumption) ?_
            try simp only [Act.put, List.setIfInBounds_toArray, List.set_cons_zero, List.set_cons_succ]
            refine wpAnyH_take (i := 36) (oi := { dst := some 104, op := Op.pick (Operand.tmp 100) (Operand.tmp 103) (Operand.const (Value.bool false)), type := 4, pos := "law.go:54", after := #[{ on := 32, ground := Ground.data }, { on := 35, ground := Ground.data }, { on := 29, ground := Ground.guard }], guard := some (29, false) }) (v := ?_) rfl (by kernel_rfl) (by kernel_rfl) (by kernel_rfl) (fun _ _ _ h => h) (Or.inl ⟨by rfl, ?_⟩) (by assumption) ?_
            rotate_left 1
            · (intro w' hSw; (try obtain ⟨s0, s1, s2, s3, s4, s5⟩ := hSw); go_simp; try (with_reducible rfl))
            try simp only [Act.put, List.setIfInBounds_toArray, List.set_cons_zero, List.set_cons_succ]
            refine wpAnyH_take (i := 37) (oi := { dst := some 105, op := Op.pick (Operand.tmp 97) (Operand.const (Value.bool true)) (Operand.tmp 104), type := 4, pos := "law.go:54", after := #[{ on := 29, ground := Ground.data }, { on := 36, ground := Ground.data }], guard := none }) (v := ?_) rfl (by kernel_rfl) (by kernel_rfl) (by kernel_rfl) (fun _ _ _ h => h) (Or.inl ⟨by rfl, ?_⟩) (by assumption) ?_
            rotate_left 1
            · (intro w' hSw; (try obtain ⟨s0, s1, s2, s3, s4, s5⟩ := hSw); go_simp; try (with_reducible rfl))
            try simp only [Act.put, List.setIfInBounds_toArray, List.set_cons_zero, List.set_cons_succ]
            refine wpAnyH_take (i := 38) (oi := { dst := some 106, op := Op.move (Operand.tmp 105), type := 4, pos := "law.go:54", after := #[{ on := 37, ground := Ground.data }, { on := 32, ground := Ground.chain }], guard := none }) (v := ?_) rfl (by kernel_rfl) (by kernel_rfl) (by kernel_rfl) (fun _ _ _ h => h) (Or.inl ⟨by rfl, ?_⟩) (by assumption) ?_
            rotate_left 1
            · (intro w' hSw; (try obtain ⟨s0, s1, s2, s3, s4, s5⟩ := hSw); go_simp; try (with_reducible rfl))
            try simp only [Act.put, List.setIfInBounds_toArray, List.set_cons_zero, List.set_cons_succ]
            refine wpAnyH_take (i := 39) (oi := { dst := some 107, op := Op.move (Operand.tmp 0), type := 25, pos := "law.go:54", after := #[{ on := 38, ground := Ground.guard }], guard := some (38, false) }) (v := ?_) rfl (by kernel_rfl) (by kernel_rfl) (by kernel_rfl) (fun _ _ _ h => h) (Or.inl ⟨by rfl, ?_⟩) (by assumption) ?_
            rotate_left 1
            · (intro w' hSw; (try obtain ⟨s0, s1, s2, s3, s4, s5⟩ := hSw); go_simp; try (with_reducible rfl))
            try simp only [Act.put, List.setIfInBounds_toArray, List.set_cons_zero, List.set_cons_succ]
            refine wpAnyH_take (i := 40) (oi := { dst := some 108, op := Op.move (Operand.tmp 3), type := 9, pos := "law.go:54", after := #[{ on := 38, ground := Ground.guard }], guard := some (38, false) }) (v := ?_) rfl (by kernel_rfl) (by kernel_rfl) (by kernel_rfl) (fun _ _ _ h => h) (Or.inl ⟨by rfl, ?_⟩) (by assumption) ?_
            rotate_left 1
            · (intro w' hSw; (try obtain ⟨s0, s1, s2, s3, s4, s5⟩ := hSw); go_simp; try (with_reducible rfl))
            try simp only [Act.put, List.setIfInBounds_toArray, List.set_cons_zero, List.set_cons_succ]
            refine wpAnyH_take (i := 42) (oi := { dst := some 110, op := Op.load 29 (Operand.tmp 5), type := 29, pos := "law.go:54", after := #[{ on := 38, ground := Ground.guard }], guard := some (38, false) }) (v := ?_) rfl (by kernel_rfl) (by kernel_rfl) (by kernel_rfl) (fun _ _ _ h => h) (Or.inl ⟨by rfl, ?_⟩) (by assumption) ?_
            rotate_left 1
            · (intro w' hSw; (try obtain ⟨s0, s1, s2, s3, s4, s5⟩ := hSw); go_simp; try (with_reducible rfl))
            try simp only [Act.put, List.setIfInBounds_toArray, List.set_cons_zero, List.set_cons_succ]
            refine wpAnyH_take (i := 43) (oi := { dst := some 111, op := Op.move (Operand.tmp 3), type := 9, pos := "law.go:54", after := #[{ on := 38, ground := Ground.guard }], guard := some (38, false) }) (v := ?_) rfl (by kernel_rfl) (by kernel_rfl) (by kernel_rfl) (fun _ _ _ h => h) (Or.inl ⟨by rfl, ?_⟩) (by assumption) ?_
            rotate_left 1
            · (intro w' hSw; (try obtain ⟨s0, s1, s2, s3, s4, s5⟩ := hSw); go_simp; try (with_reducible rfl))
            try simp only [Act.put, List.setIfInBounds_toArray, List.set_cons_zero, List.set_cons_succ]
            refine wpAnyH_ready (rs := [41]) (by kernel_rfl) (by simp) ?_
            refine (AllReadyH.cons rfl (fun K hK => ?_) AllReadyH.nil)
            · skip
              go_simp
              first
                | (with_reducible refine (KL.out _ HBZ.out).mono ?_); rintro e wA ⟨v9, rfl, hrA, hbA⟩; have RA := Lib.hid hrA; have HBA := Lib.hid (HBZ.out.trans (hbA.mono HBZ.out.size)); clear hrA hbA
                | (with_reducible refine (KL.out _ HBB.out).mono ?_); rintro e wA ⟨v9, rfl, hrA, hbA⟩; have RAf := Lib.hid hrA; have RBf := Lib.hid (RowI.below RB.out hbA); have HBf := Lib.hid (HBB.out.trans (hbA.mono HBB.out.size)); clear hrA hbA
              clear hHeld
              refine hK.out _ _ ?_ (fun hHeld => ?_)
              · (try dsimp only); (first | exact HSX.out _ HBS.out | exact HSX.out _ HBf.out | exact HSX.out _ HBA.out | exact HSX.out _ HBB.out | exact HSX.out _ HBZ.out)
              clear hK K
              refine wpAnyH_ready (rs := [44]) (by kernel_rfl) (by simp) ?_
              refine (AllReadyH.cons rfl (fun K hK => ?_) AllReadyH.nil)
              · skip
                go_simp
                first
                  | (with_reducible refine (KO.out _ HBZ.out).mono ?_); rintro e wB ⟨v10, rfl, hrB, hbB⟩; have RB := Lib.hid hrB; have HBB := Lib.hid (HBZ.out.trans (hbB.mono HBZ.out.size)); clear hrB hbB
                  | (with_reducible refine (KO.out _ HBA.out).mono ?_); rintro e wB ⟨v10, rfl, hrB, hbB⟩; have RBf := Lib.hid hrB; have RAf := Lib.hid (RowI.below RA.out hbB); have HBf := Lib.hid (HBA.out.trans (hbB.mono HBA.out.size)); clear hrB hbB
                clear hHeld
                refine hK.out _ _ ?_ (fun hHeld => ?_)
                · (try dsimp only); (first | exact HSX.out _ HBS.out | exact HSX.out _ HBf.out | exact HSX.out _ HBA.out | exact HSX.out _ HBB.out | exact HSX.out _ HBZ.out)
                clear hK K
                refine wpAnyH_ready (rs := [45]) (by kernel_rfl) (by simp) ?_
                refine (AllReadyH.cons rfl (fun K hK => ?_) AllReadyH.nil)
                · skip
                  go_simp
                  refine (KS.out _ _ _ RAf.out RBf.out).mono ?_
                  rintro e wS ⟨rfl, hbS⟩
                  have HBS := Lib.hid (HBf.out.trans (hbS.mono HBf.out.size))
                  clear hbS
                  clear hHeld
                  refine hK.out _ _ ?_ (fun hHeld => ?_)
                  · (try dsimp only); (first | exact HSX.out _ HBS.out | exact HSX.out _ HBf.out | exact HSX.out _ HBA.out | exact HSX.out _ HBB.out | exact HSX.out _ HBZ.out)
                  clear hK K
                  refine wpAnyH_take (i := 46) (oi := { dst := some 114, op := Op.unOp UnOp.not 4 (Operand.tmp 113), type := 4, pos := "law.go:54", after := #[{ on := 45, ground := Ground.data }, { on := 38, ground := Ground.guard }], guard := some (38, false) }) (v := ?_) rfl (by kernel_rfl) (by kernel_rfl) (by kernel_rfl) (fun _ _ _ h => h) (Or.inl ⟨by rfl, ?_⟩) (by assumption) ?_
                  rotate_left 1
                  · (intro w' hSw; (try obtain ⟨s0, s1, s2, s3, s4, s5⟩ := hSw); go_simp; try (with_reducible rfl))
                  try simp only [Act.put, List.setIfInBounds_toArray, List.set_cons_zero, List.set_cons_succ]
                  refine wpAnyH_take (i := 47) (oi := { dst := some 115, op := Op.pick (Operand.tmp 106) (Operand.const (Value.bool true)) (Operand.tmp 114), type := 4, pos := "law.go:54", after := #[{ on := 38, ground := Ground.data }, { on := 46, ground := Ground.data }], guard := none }) (v := ?_) rfl (by kernel_rfl) (by kernel_rfl) (by kernel_rfl) (fun _ _ _ h => h) (Or.inl ⟨by rfl, ?_⟩) (by assumption) ?_
                  rotate_left 1
                  · (intro w' hSw; (try obtain ⟨s0, s1, s2, s3, s4, s5⟩ := hSw); go_simp; try (with_reducible rfl))
                  try simp only [Act.put, List.setIfInBounds_toArray, List.set_cons_zero, List.set_cons_succ]
                  refine wpAnyH_done (by kernel_rfl) ?_ _
                  clear hHeld
                  go_wp2_with fail
                  go_meet
                  exact ⟨rfl, HBZY.out.trans (HBS.out.mono HBZY.out.size)⟩
          case rest =>
          obtain ⟨rfl, hbv⟩ := hcut
          rename World => wv
          clear KO KL KS HBW HBD m0 m1 d0 d1 HSX HBZ HBZY
          have KE : Hid (∀ X, Below Y.heap.size Y X → Calls Try.prog 18 #[.pointer (some ⟨T, 0, none⟩)] X fun e W' => ∃ v, e = .returned v ∧ RowE W' Y.heap.size v (edgesR H L) ∧ Below X.heap.size X W') := fun X hX => by
            have hx := HA.out.below hX
            refine (edges_all hx.t hx.c hx.n4 hx.ql).mono ?_
            rintro e W' ⟨v, kl, rfl, hr, hkl, hb⟩
            rw [hx.two.edges hx.c hkl] at hr
            exact ⟨v, rfl, ⟨hr.1, hr.2.imp id fun ⟨g, cap, cur, q1, q2, q3⟩ => ⟨g, cap, cur, q1, Nat.le_trans hX.size q2, q3⟩⟩, hb⟩
          have KF : Hid (∀ X, Below Y.heap.size Y X → Calls Try.prog 26 #[.agg #[.slice aH H.length cH, .slice (some ⟨bl, ol, none⟩) L.length cL]] X fun e W' => ∃ v, e = .returned v ∧ RowF W' Y.heap.size v (edgesR H L) ∧ Below X.heap.size X W') := fun X hX => by
            have hx := HA.out.below hX
            refine (edges14_any aH H cH (some ⟨bl, ol, none⟩) L cL hx.lH hx.lL hx.hH hx.hL).mono ?_
            rintro e W' ⟨v, rfl, hr, hb⟩
            exact ⟨v, rfl, hr.mono hX.size, hb⟩
          have HBD : Hid (Below Y.heap.size Y wv.drew) := hbv.out.trans ((Below.refl wv.heap.size wv).drew.mono hbv.out.size)
          obtain ⟨d0, d1⟩ := HT.out _ HBD.out
          clear hbv
          go_upto_region 13 with fail
          go_cut [15, 16] from 116 to 119 (fun v15 v16 wy => Hid (RowE wy Y.heap.size v15 (edgesR H L)) ∧ Hid (RowF wy Y.heap.size v16 (edgesR H L)) ∧ Hid (Below Y.heap.size Y wy))
          case first =>
            go_region_law (first | (go_simp; go_at_call 18; (with_reducible refine (KE.out _ HBD.out).mono ?_); rintro e wA ⟨v9, rfl, hrA, hbA⟩; have RA := Lib.hid hrA; have HBA := Lib.hid (HBD.out.trans (hbA.mono HBD.out.size)); obtain ⟨dA0, dA1⟩ := HT.out _ HBA.out; clear hrA hbA; go_simp) | (go_simp; go_at_call 18; (with_reducible refine (KE.out _ HBB.out).mono ?_); rintro e wA ⟨v9, rfl, hrA, hbA⟩; have RAf := Lib.hid hrA; have RBf := Lib.hid (rowF_below RB.out hbA); have HBf := Lib.hid (HBB.out.trans (hbA.mono HBB.out.size)); clear hrA hbA; go_simp) | (go_simp; go_at_call 26; (with_reducible refine (KF.out _ HBD.out).mono ?_); rintro e wB ⟨v10, rfl, hrB, hbB⟩; have RB := Lib.hid hrB; have HBB := Lib.hid (HBD.out.trans (hbB.mono HBD.out.size)); obtain ⟨dB0, dB1⟩ := HT.out _ HBB.out; clear hrB hbB; go_simp) | (go_simp; go_at_call 26; (with_reducible refine (KF.out _ HBA.out).mono ?_); rintro e wB ⟨v10, rfl, hrB, hbB⟩; have RBf := Lib.hid hrB; have RAf := Lib.hid (rowE_below RA.out hbB); have HBf := Lib.hid (HBA.out.trans (hbB.mono HBA.out.size)); clear hrB hbB; go_simp))
            all_goals
              go_wp2_with fail
              go_meet
              exact ⟨RAf, RBf, HBf⟩
          case rest =>
          obtain ⟨r15, r16, hby⟩ := hcut
          rename World => wy
          have HR15 := r15
          have HR16 := r16
          have HBY := hby
          clear KE KF HBD d0 d1 r15 r16 hby
          obtain ⟨a15, c15, hv15, hc15⟩ := HR15.out.form
          obtain ⟨a16, c16, hv16, hc16⟩ := HR16.out.form
          have HC15 := Lib.hid hc15
          have HC16 := Lib.hid hc16
          have HEL := Lib.hid (rowE_len HR15.out)
          generalize edgesR H L = E at *
          subst hv15 hv16
          have hel := HEL.out
          unfold maxLen at hel
          have heli : (E.length : Int) ≤ 9223372036854775807 := by omega
          have S0 : Hid (Below wy.heap.size wy wy) := Below.refl _ _
          clear hc15 hc16 hel
          go_wp2
          go_loopw [17] (fun i wr => ∃ j : Nat, i = .int .i64 (j : Int) ∧ j ≤ E.length ∧ Hid (Below wy.heap.size wy wr)) (fun i _ => E.length - (intOf i).toNat)
          case atStart => exact ⟨0, rfl, Nat.zero_le _, S0⟩
          case round =>
            obtain ⟨j, rfl, hj, hb⟩ := hrel
            rename World => wr
            clear S0
            by_cases hlt : j < E.length
            · obtain ⟨g15, e15, eo15, hx15⟩ := HC15.out j hlt
              obtain ⟨g16, e16, eo16, hx16⟩ := HC16.out j hlt
              obtain ⟨p0, p1⟩ := hx15 wr (hb.out.block g15 (World.ownsRow.lt HR15.out g15 eo15).2)
              obtain ⟨q0, q1⟩ := hx16 wr (hb.out.block g16 (World.ownsRow.lt HR16.out g16 eo16).2)
              have HLT := Lib.hid hlt
              have hji : (j : Int) < (E.length : Int) := by omega
              have hjn : (0 : Int) ≤ (j : Int) := Int.natCast_nonneg _
              have HNB := Lib.hid (fun n => below_drewN hb.out n)
              subst e15 e16
              clear hx15 hx16
              generalize E[j] = x at *
              obtain ⟨x1, x2⟩ := x
              replace p0 : wr.cell? ⟨g15, j * 2, none⟩ = some (.int .i64 x1) := p0
              replace p1 : wr.cell? ⟨g15, j * 2 + 1, none⟩ = some (.int .i64 x2) := p1
              replace q0 : wr.cell? ⟨g16, j * 2, none⟩ = some (.int .i64 x1) := q0
              replace q1 : wr.cell? ⟨g16, j * 2 + 1, none⟩ = some (.int .i64 x2) := q1
              go_upto_region 19 with fail
              go_quiet (fail)
              go_wp2
              go_roundw
              case rel => exact ⟨j + 1, by go_num, HLT.out, HNB.out _⟩
              case measure => simp [intOf]; have := HLT.out; omega
            · obtain rfl : j = E.length := by omega
              have HBR2 := Lib.hid (HBY.out.trans (hb.out.mono HBY.out.size))
              have HQ := Lib.hid (HB.out.trans (HBR2.out.mono HB.out.size))
              clear HR15 HR16 hb
              go_wp2
              go_ret
              exact ⟨rfl, by first | exact HQ.out | (rw [hN2.out]; exact HQ.out)⟩
        | true =>
          go_upto_region 11 with fail
          have HBZY := HBD
          have HSX : Hid (∀ X, Below wd.drew.heap.size wd.drew X → ((fun w' => w'.cell? ⟨N, 0, none⟩ = some (.slice aH H.length cH) ∧ w'.cell? ⟨N, 1, none⟩ = some (.slice (some ⟨bl, ol, none⟩) L.length cL) ∧ w'.cell? ⟨M, 0, none⟩ = some (.string xk) ∧ w'.cell? ⟨M, 1, none⟩ = some (.bool true) ∧ w'.cell? ⟨bl, ol + p * 3 + 1, none⟩ = some (.string xk) ∧ w'.cell? ⟨bl, ol + p * 3 + 2, none⟩ = some (.bool true)) X)) := fun X hX => ⟨keep_cell hX d0, keep_cell hX d1, keep_cell hX m0, keep_cell hX m1, keep_cell hX k1, keep_cell hX k2⟩
          have HBZ : Hid (Below wd.drew.heap.size wd.drew wd.drew) := Below.refl _ _
          replace KL := Lib.hid (fun X (hX : Below wd.drew.heap.size wd.drew X) => KL.out X (HBZY.out.trans (hX.mono HBZY.out.size)))
          replace KO := Lib.hid (fun X (hX : Below wd.drew.heap.size wd.drew X) => KO.out X (HBZY.out.trans (hX.mono HBZY.out.size)))
          go_cut [115] from 68 to 114 (fun v wv => v = .bool false ∧ Hid (Below Y.heap.size Y wv))
          case first =>
            refine wp_region_held_drew (S := (fun w' => w'.cell? ⟨N, 0, none⟩ = some (.slice aH H.length cH) ∧ w'.cell? ⟨N, 1, none⟩ = some (.slice (some ⟨bl, ol, none⟩) L.length cL) ∧ w'.cell? ⟨M, 0, none⟩ = some (.string xk) ∧ w'.cell? ⟨M, 1, none⟩ = some (.bool true) ∧ w'.cell? ⟨bl, ol + p * 3 + 1, none⟩ = some (.string xk) ∧ w'.cell? ⟨bl, ol + p * 3 + 2, none⟩ = some (.bool true))) (by kernel_rfl) ?_ (fun hHeld => ?_)
            · (try dsimp only); (first | exact HSX.out _ HBS.out | exact HSX.out _ HBf.out | exact HSX.out _ HBA.out | exact HSX.out _ HBB.out | exact HSX.out _ HBZ.out)
            refine wpAnyH_take (i := 0) (oi := { dst := some 68, op := Op.move (Operand.tmp 13), type := 4, pos := "law.go:54", after := #[], guard := none }) (v := ?_) rfl (by kernel_rfl) (by kernel_rfl) (by kernel_rfl) (fun _ _ _ h => h) (Or.inl ⟨by rfl, ?_⟩) (by assumption) ?_
            rotate_left 1
            · (intro w' hSw; (try obtain ⟨s0, s1, s2, s3, s4, s5⟩ := hSw); go_simp; try (with_reducible rfl))
            try simp only [Act.put, List.setIfInBounds_toArray, List.set_cons_zero, List.set_cons_succ]
            refine wpAnyH_take (i := 1) (oi := { dst := some 69, op := Op.move (Operand.tmp 14), type := 3, pos := "law.go:54", after := #[], guard := none }) (v := ?_) rfl (by kernel_rfl) (by kernel_rfl) (by kernel_rfl) (fun _ _ _ h => h) (Or.inl ⟨by rfl, ?_⟩) (by assumption) ?_
            rotate_left 1
            · (intro w' hSw; (try obtain ⟨s0, s1, s2, s3, s4, s5⟩ := hSw); go_simp; try (with_reducible rfl))
            try simp only [Act.put, List.setIfInBounds_toArray, List.set_cons_zero, List.set_cons_succ]
            refine wpAnyH_take (i := 2) (oi := { dst := some 70, op := Op.binOp BinOp.geq 3 (Operand.tmp 69) (Operand.const (Value.int IntKind.i64 0)) 3, type := 4, pos := "law.go:54", after := #[{ on := 1, ground := Ground.data }], guard := none }) (v := ?_) rfl (by kernel_rfl) (by kernel_rfl) (by kernel_rfl) (fun _ _ _ h => h) (Or.inl ⟨by rfl, ?_⟩) (by assumption) ?_
            rotate_left 1
            · (intro w' hSw; (try obtain ⟨s0, s1, s2, s3, s4, s5⟩ := hSw); go_simp; try (with_reducible rfl))
            try simp only [Act.put, List.setIfInBounds_toArray, List.set_cons_zero, List.set_cons_succ]
            refine wpAnyH_take (i := 3) (oi := { dst := some 71, op := Op.binOp BinOp.neq 4 (Operand.tmp 68) (Operand.tmp 70) 4, type := 4, pos := "law.go:54", after := #[{ on := 0, ground := Ground.data }, { on := 2, ground := Ground.data }], guard := none }) (v := ?_) rfl (by kernel_rfl) (by kernel_rfl) (by kernel_rfl) (fun _ _ _ h => h) (Or.inl ⟨by rfl, ?_⟩) (by assumption) ?_
            rotate_left 1
            · (intro w' hSw; (try obtain ⟨s0, s1, s2, s3, s4, s5⟩ := hSw); go_simp; try (with_reducible rfl))
            try simp only [Act.put, List.setIfInBounds_toArray, List.set_cons_zero, List.set_cons_succ]
            refine wpAnyH_take (i := 4) (oi := { dst := some 72, op := Op.move (Operand.tmp 71), type := 4, pos := "law.go:54", after := #[{ on := 3, ground := Ground.data }], guard := none }) (v := ?_) rfl (by kernel_rfl) (by kernel_rfl) (by kernel_rfl) (fun _ _ _ h => h) (Or.inl ⟨by rfl, ?_⟩) (by assumption) ?_
            rotate_left 1
            · (intro w' hSw; (try obtain ⟨s0, s1, s2, s3, s4, s5⟩ := hSw); go_simp; try (with_reducible rfl))
            try simp only [Act.put, List.setIfInBounds_toArray, List.set_cons_zero, List.set_cons_succ]
            refine wpAnyH_take (i := 5) (oi := { dst := some 73, op := Op.move (Operand.tmp 13), type := 4, pos := "law.go:54", after := #[{ on := 4, ground := Ground.guard }], guard := some (4, false) }) (v := ?_) rfl (by kernel_rfl) (by kernel_rfl) (by kernel_rfl) (fun _ _ _ h => h) (Or.inl ⟨by rfl, ?_⟩) (by assumption) ?_
            rotate_left 1
            · (intro w' hSw; (try obtain ⟨s0, s1, s2, s3, s4, s5⟩ := hSw); go_simp; try (with_reducible rfl))
            try simp only [Act.put, List.setIfInBounds_toArray, List.set_cons_zero, List.set_cons_succ]
            refine wpAnyH_take (i := 6) (oi := { dst := some 74, op := Op.move (Operand.tmp 73), type := 4, pos := "law.go:54", after := #[{ on := 5, ground := Ground.data }, { on := 4, ground := Ground.chain }, { on := 4, ground := Ground.guard }], guard := some (4, false) }) (v := ?_) rfl (by kernel_rfl) (by kernel_rfl) (by kernel_rfl) (fun _ _ _ h => h) (Or.inl ⟨by rfl, ?_⟩) (by assumption) ?_
            rotate_left 1
            · (intro w' hSw; (try obtain ⟨s0, s1, s2, s3, s4, s5⟩ := hSw); go_simp; try (with_reducible rfl))
            try simp only [Act.put, List.setIfInBounds_toArray, List.set_cons_zero, List.set_cons_succ]
            refine wpAnyH_take (i := 7) (oi := { dst := some 75, op := Op.fieldAddr 40 (Operand.tmp 12) 0, type := 0, pos := "law.go:54", after := #[{ on := 6, ground := Ground.guard }], guard := some (6, true) }) (v := ?_) rfl (by kernel_rfl) (by kernel_rfl) (by kernel_rfl) (fun _ _ _ h => h) (Or.inl ⟨by rfl, ?_⟩) (by assumption) ?_
            rotate_left 1
            · (intro w' hSw; (try obtain ⟨s0, s1, s2, s3, s4, s5⟩ := hSw); go_simp; try (with_reducible rfl))
            try simp only [Act.put, List.setIfInBounds_toArray, List.set_cons_zero, List.set_cons_succ]
            refine wpAnyH_take (i := 8) (oi := { dst := some 76, op := Op.load 9 (Operand.tmp 75), type := 9, pos := "law.go:54", after := #[{ on := 7, ground := Ground.data }, { on := 6, ground := Ground.guard }], guard := some (6, true) }) (v := ?_) rfl (by kernel_rfl) (by kernel_rfl) (by kernel_rfl) (fun _ _ _ h => h) (Or.inl ⟨by rfl, ?_⟩) (by assumption) ?_
            rotate_left 1
            · (intro w' hSw; (try obtain ⟨s0, s1, s2, s3, s4, s5⟩ := hSw); go_simp; try (with_reducible rfl))
            try simp only [Act.put, List.setIfInBounds_toArray, List.set_cons_zero, List.set_cons_succ]
            refine wpAnyH_take (i := 9) (oi := { dst := some 77, op := Op.fieldAddr 29 (Operand.tmp 5) 1, type := 0, pos := "law.go:54", after := #[{ on := 6, ground := Ground.guard }], guard := some (6, true) }) (v := ?_) rfl (by kernel_rfl) (by kernel_rfl) (by kernel_rfl) (fun _ _ _ h => h) (Or.inl ⟨by rfl, ?_⟩) (by assumption) ?_
            rotate_left 1
            · (intro w' hSw; (try obtain ⟨s0, s1, s2, s3, s4, s5⟩ := hSw); go_simp; try (with_reducible rfl))
            try simp only [Act.put, List.setIfInBounds_toArray, List.set_cons_zero, List.set_cons_succ]
            refine wpAnyH_take (i := 10) (oi := { dst := some 78, op := Op.load 27 (Operand.tmp 77), type := 27, pos := "law.go:54", after := #[{ on := 9, ground := Ground.data }, { on := 6, ground := Ground.guard }], guard := some (6, true) }) (v := ?_) rfl (by kernel_rfl) (by kernel_rfl) (by kernel_rfl) (fun _ _ _ h => h) (Or.inl ⟨by rfl, ?_⟩) (by assumption) ?_
            rotate_left 1
            · (intro w' hSw; (try obtain ⟨s0, s1, s2, s3, s4, s5⟩ := hSw); go_simp; try (with_reducible rfl))
            try simp only [Act.put, List.setIfInBounds_toArray, List.set_cons_zero, List.set_cons_succ]
            refine wpAnyH_take (i := 11) (oi := { dst := some 79, op := Op.move (Operand.tmp 14), type := 3, pos := "law.go:54", after := #[{ on := 6, ground := Ground.guard }], guard := some (6, true) }) (v := ?_) rfl (by kernel_rfl) (by kernel_rfl) (by kernel_rfl) (fun _ _ _ h => h) (Or.inl ⟨by rfl, ?_⟩) (by assumption) ?_
            rotate_left 1
            · (intro w' hSw; (try obtain ⟨s0, s1, s2, s3, s4, s5⟩ := hSw); go_simp; try (with_reducible rfl))
            try simp only [Act.put, List.setIfInBounds_toArray, List.set_cons_zero, List.set_cons_succ]
            refine wpAnyH_take (i := 12) (oi := { dst := some 80, op := Op.indexAddr 27 (Operand.tmp 78) (Operand.tmp 79), type := 0, pos := "law.go:54", after := #[{ on := 10, ground := Ground.data }, { on := 11, ground := Ground.data }, { on := 6, ground := Ground.guard }], guard := some (6, true) }) (v := ?_) rfl (by kernel_rfl) (by kernel_rfl) (by kernel_rfl) (fun _ _ _ h => h) (Or.inl ⟨by rfl, ?_⟩) (by assumption) ?_
            rotate_left 1
            · (intro w' hSw; (try obtain ⟨s0, s1, s2, s3, s4, s5⟩ := hSw); go_simp; try (with_reducible rfl))
            try simp only [Act.put, List.setIfInBounds_toArray, List.set_cons_zero, List.set_cons_succ]
            refine wpAnyH_take (i := 13) (oi := { dst := some 81, op := Op.fieldAddr 67 (Operand.tmp 80) 1, type := 0, pos := "law.go:54", after := #[{ on := 12, ground := Ground.data }, { on := 6, ground := Ground.guard }], guard := some (6, true) }) (v := ?_) rfl (by kernel_rfl) (by kernel_rfl) (by kernel_rfl) (fun _ _ _ h => h) (Or.inl ⟨by rfl, ?_⟩) (by assumption) ?_
            rotate_left 1
            · (intro w' hSw; (try obtain ⟨s0, s1, s2, s3, s4, s5⟩ := hSw); go_simp; try (with_reducible rfl))
            try simp only [Act.put, List.setIfInBounds_toArray, List.set_cons_zero, List.set_cons_succ]
            refine wpAnyH_take (i := 14) (oi := { dst := some 82, op := Op.load 9 (Operand.tmp 81), type := 9, pos := "law.go:54", after := #[{ on := 13, ground := Ground.data }, { on := 6, ground := Ground.guard }], guard := some (6, true) }) (v := ?_) rfl (by kernel_rfl) (by kernel_rfl) (by kernel_rfl) (fun _ _ _ h => h) (Or.inl ⟨by rfl, ?_⟩) (by assumption) ?_
            rotate_left 1
            · (intro w' hSw; (try obtain ⟨s0, s1, s2, s3, s4, s5⟩ := hSw); go_simp; try (with_reducible rfl))
            try simp only [Act.put, List.setIfInBounds_toArray, List.set_cons_zero, List.set_cons_succ]
            refine wpAnyH_take (i := 15) (oi := { dst := some 83, op := Op.binOp BinOp.neq 9 (Operand.tmp 76) (Operand.tmp 82) 9, type := 4, pos := "law.go:54", after := #[{ on := 8, ground := Ground.data }, { on := 14, ground := Ground.data }, { on := 6, ground := Ground.guard }], guard := some (6, true) }) (v := ?_) rfl (by kernel_rfl) (by kernel_rfl) (by kernel_rfl) (fun _ _ _ h => h) (Or.inl ⟨by rfl, ?_⟩) (by assumption) ?_
            rotate_left 1
            · (intro w' hSw; (try obtain ⟨s0, s1, s2, s3, s4, s5⟩ := hSw); go_simp; try (with_reducible rfl))
            try simp only [Act.put, List.setIfInBounds_toArray, List.set_cons_zero, List.set_cons_succ]
            refine wpAnyH_take (i := 16) (oi := { dst := some 84, op := Op.move (Operand.tmp 83), type := 4, pos := "law.go:54", after := #[{ on := 15, ground := Ground.data }, { on := 6, ground := Ground.chain }, { on := 6, ground := Ground.guard }], guard := some (6, true) }) (v := ?_) rfl (by kernel_rfl) (by kernel_rfl) (by kernel_rfl) (fun _ _ _ h => h) (Or.inl ⟨by rfl, ?_⟩) (by assumption) ?_
            rotate_left 1
            · (intro w' hSw; (try obtain ⟨s0, s1, s2, s3, s4, s5⟩ := hSw); go_simp; try (with_reducible rfl))
            try simp only [Act.put, List.setIfInBounds_toArray, List.set_cons_zero, List.set_cons_succ]
            refine wpAnyH_take (i := 17) (oi := { dst := some 85, op := Op.fieldAddr 40 (Operand.tmp 12) 1, type := 0, pos := "law.go:54", after := #[{ on := 16, ground := Ground.guard }], guard := some (16, false) }) (v := ?_) rfl (by kernel_rfl) (by kernel_rfl) (by kernel_rfl) (fun _ _ _ h => h) (Or.inl ⟨by rfl, ?_⟩) (by assumption) ?_
            rotate_left 1
            · (intro w' hSw; (try obtain ⟨s0, s1, s2, s3, s4, s5⟩ := hSw); go_simp; try (with_reducible rfl))
            try simp only [Act.put, List.setIfInBounds_toArray, List.set_cons_zero, List.set_cons_succ]
            refine wpAnyH_take (i := 18) (oi := { dst := some 86, op := Op.load 4 (Operand.tmp 85), type := 4, pos := "law.go:54", after := #[{ on := 17, ground := Ground.data }, { on := 16, ground := Ground.guard }], guard := some (16, false) }) (v := ?_) rfl (by kernel_rfl) (by kernel_rfl) (by kernel_rfl) (fun _ _ _ h => h) (Or.inl ⟨by rfl, ?_⟩) (by assumption) ?_
            rotate_left 1
            · (intro w' hSw; (try obtain ⟨s0, s1, s2, s3, s4, s5⟩ := hSw); go_simp; try (with_reducible rfl))
            try simp only [Act.put, List.setIfInBounds_toArray, List.set_cons_zero, List.set_cons_succ]
            refine wpAnyH_take (i := 19) (oi := { dst := some 87, op := Op.fieldAddr 29 (Operand.tmp 5) 1, type := 0, pos := "law.go:54", after := #[{ on := 16, ground := Ground.guard }], guard := some (16, false) }) (v := ?_) rfl (by kernel_rfl) (by kernel_rfl) (by kernel_rfl) (fun _ _ _ h => h) (Or.inl ⟨by rfl, ?_⟩) (by assumption) ?_
            rotate_left 1
            · (intro w' hSw; (try obtain ⟨s0, s1, s2, s3, s4, s5⟩ := hSw); go_simp; try (with_reducible rfl))
            try simp only [Act.put, List.setIfInBounds_toArray, List.set_cons_zero, List.set_cons_succ]
            refine wpAnyH_take (i := 20) (oi := { dst := some 88, op := Op.load 27 (Operand.tmp 87), type := 27, pos := "law.go:54", after := #[{ on := 19, ground := Ground.data }, { on := 16, ground := Ground.guard }], guard := some (16, false) }) (v := ?_) rfl (by kernel_rfl) (by kernel_rfl) (by kernel_rfl) (fun _ _ _ h => h) (Or.inl ⟨by rfl, ?_⟩) (by assumption) ?_
            rotate_left 1
            · (intro w' hSw; (try obtain ⟨s0, s1, s2, s3, s4, s5⟩ := hSw); go_simp; try (with_reducible rfl))
            try simp only [Act.put, List.setIfInBounds_toArray, List.set_cons_zero, List.set_cons_succ]
            refine wpAnyH_take (i := 21) (oi := { dst := some 89, op := Op.move (Operand.tmp 14), type := 3, pos := "law.go:54", after := #[{ on := 16, ground := Ground.guard }], guard := some (16, false) }) (v := ?_) rfl (by kernel_rfl) (by kernel_rfl) (by kernel_rfl) (fun _ _ _ h => h) (Or.inl ⟨by rfl, ?_⟩) (by assumption) ?_
            rotate_left 1
            · (intro w' hSw; (try obtain ⟨s0, s1, s2, s3, s4, s5⟩ := hSw); go_simp; try (with_reducible rfl))
            try simp only [Act.put, List.setIfInBounds_toArray, List.set_cons_zero, List.set_cons_succ]
            refine wpAnyH_take (i := 22) (oi := { dst := some 90, op := Op.indexAddr 27 (Operand.tmp 88) (Operand.tmp 89), type := 0, pos := "law.go:54", after := #[{ on := 20, ground := Ground.data }, { on := 21, ground := Ground.data }, { on := 16, ground := Ground.guard }], guard := some (16, false) }) (v := ?_) rfl (by kernel_rfl) (by kernel_rfl) (by kernel_rfl) (fun _ _ _ h => h) (Or.inl ⟨by rfl, ?_⟩) (by assumption) ?_
            rotate_left 1
            · (intro w' hSw; (try obtain ⟨s0, s1, s2, s3, s4, s5⟩ := hSw); go_simp; try (with_reducible rfl))
            try simp only [Act.put, List.setIfInBounds_toArray, List.set_cons_zero, List.set_cons_succ]
            refine wpAnyH_take (i := 23) (oi := { dst := some 91, op := Op.fieldAddr 67 (Operand.tmp 90) 2, type := 0, pos := "law.go:54", after := #[{ on := 22, ground := Ground.data }, { on := 16, ground := Ground.guard }], guard := some (16, false) }) (v := ?_) rfl (by kernel_rfl) (by kernel_rfl) (by kernel_rfl) (fun _ _ _ h => h) (Or.inl ⟨by rfl, ?_⟩) (by assumption) ?_
            rotate_left 1
            · (intro w' hSw; (try obtain ⟨s0, s1, s2, s3, s4, s5⟩ := hSw); go_simp; try (with_reducible rfl))
            try simp only [Act.put, List.setIfInBounds_toArray, List.set_cons_zero, List.set_cons_succ]
            refine wpAnyH_take (i := 24) (oi := { dst := some 92, op := Op.load 4 (Operand.tmp 91), type := 4, pos := "law.go:54", after := #[{ on := 23, ground := Ground.data }, { on := 16, ground := Ground.guard }], guard := some (16, false) }) (v := ?_) rfl (by kernel_rfl) (by kernel_rfl) (by kernel_rfl) (fun _ _ _ h => h) (Or.inl ⟨by rfl, ?_⟩) (by assumption) ?_
            rotate_left 1
            · (intro w' hSw; (try obtain ⟨s0, s1, s2, s3, s4, s5⟩ := hSw); go_simp; try (with_reducible rfl))
            try simp only [Act.put, List.setIfInBounds_toArray, List.set_cons_zero, List.set_cons_succ]
            refine wpAnyH_take (i := 25) (oi := { dst := some 93, op := Op.binOp BinOp.neq 4 (Operand.tmp 86) (Operand.tmp 92) 4, type := 4, pos := "law.go:54", after := #[{ on := 18, ground := Ground.data }, { on := 24, ground := Ground.data }, { on := 16, ground := Ground.guard }], guard := some (16, false) }) (v := ?_) rfl (by kernel_rfl) (by kernel_rfl) (by kernel_rfl) (fun _ _ _ h => h) (Or.inl ⟨by rfl, ?_⟩) (by assumption) ?_
            rotate_left 1
            · (intro w' hSw; (try obtain ⟨s0, s1, s2, s3, s4, s5⟩ := hSw); go_simp; try (with_reducible rfl))
            try simp only [Act.put, List.setIfInBounds_toArray, List.set_cons_zero, List.set_cons_succ]
            refine wpAnyH_take (i := 26) (oi := { dst := some 94, op := Op.pick (Operand.tmp 84) (Operand.const (Value.bool true)) (Operand.tmp 93), type := 4, pos := "law.go:54", after := #[{ on := 16, ground := Ground.data }, { on := 25, ground := Ground.data }, { on := 6, ground := Ground.guard }], guard := some (6, true) }) (v := ?_) rfl (by kernel_rfl) (by kernel_rfl) (by kernel_rfl) (fun _ _ _ h => h) (Or.inl ⟨by rfl, ?_⟩) (by assumption) ?_
            rotate_left 1
            · (intro w' hSw; (try obtain ⟨s0, s1, s2, s3, s4, s5⟩ := hSw); go_simp; try (with_reducible rfl))
            try simp only [Act.put, List.setIfInBounds_toArray, List.set_cons_zero, List.set_cons_succ]
            refine wpAnyH_take (i := 27) (oi := { dst := some 95, op := Op.pick (Operand.tmp 74) (Operand.tmp 94) (Operand.const (Value.bool false)), type := 4, pos := "law.go:54", after := #[{ on := 6, ground := Ground.data }, { on := 26, ground := Ground.data }, { on := 4, ground := Ground.guard }], guard := some (4, false) }) (v := ?_) rfl (by kernel_rfl) (by kernel_rfl) (by kernel_rfl) (fun _ _ _ h => h) (Or.inl ⟨by rfl, ?_⟩) (by assumption) ?_
            rotate_left 1
            · (intro w' hSw; (try obtain ⟨s0, s1, s2, s3, s4, s5⟩ := hSw); go_simp; try (with_reducible rfl))
            try simp only [Act.put, List.setIfInBounds_toArray, List.set_cons_zero, List.set_cons_succ]
            refine wpAnyH_take (i := 28) (oi := { dst := some 96, op := Op.pick (Operand.tmp 72) (Operand.const (Value.bool true)) (Operand.tmp 95), type := 4, pos := "law.go:54", after := #[{ on := 4, ground := Ground.data }, { on := 27, ground := Ground.data }], guard := none }) (v := ?_) rfl (by kernel_rfl) (by kernel_rfl) (by kernel_rfl) (fun _ _ _ h => h) (Or.inl ⟨by rfl, ?_⟩) (by assumption) ?_
            rotate_left 1
            · (intro w' hSw; (try obtain ⟨s0, s1, s2, s3, s4, s5⟩ := hSw); go_simp; try (with_reducible rfl))
            try simp only [Act.put, List.setIfInBounds_toArray, List.set_cons_zero, List.set_cons_succ]
            refine wpAnyH_take (i := 29) (oi := { dst := some 97, op := Op.move (Operand.tmp 96), type := 4, pos := "law.go:54", after := #[{ on := 28, ground := Ground.data }, { on := 16, ground := Ground.chain }], guard := none }) (v := ?_) rfl (by kernel_rfl) (by kernel_rfl) (by kernel_rfl) (fun _ _ _ h => h) (Or.inl ⟨by rfl, ?_⟩) (by assumption) ?_
            rotate_left 1
            · (intro w' hSw; (try obtain ⟨s0, s1, s2, s3, s4, s5⟩ := hSw); go_simp; try (with_reducible rfl))
            try simp only [Act.put, List.setIfInBounds_toArray, List.set_cons_zero, List.set_cons_succ]
            refine wpAnyH_take (i := 30) (oi := { dst := some 98, op := Op.move (Operand.tmp 13), type := 4, pos := "law.go:54", after := #[{ on := 29, ground := Ground.guard }], guard := some (29, false) }) (v := ?_) rfl (by kernel_rfl) (by kernel_rfl) (by kernel_rfl) (fun _ _ _ h => h) (Or.inl ⟨by rfl, ?_⟩) (by assumption) ?_
            rotate_left 1
            · (intro w' hSw; (try obtain ⟨s0, s1, s2, s3, s4, s5⟩ := hSw); go_simp; try (with_reducible rfl))
            try simp only [Act.put, List.setIfInBounds_toArray, List.set_cons_zero, List.set_cons_succ]
            refine wpAnyH_take (i := 31) (oi := { dst := some 99, op := Op.unOp UnOp.not 4 (Operand.tmp 98), type := 4, pos := "law.go:54", after := #[{ on := 30, ground := Ground.data }, { on := 29, ground := Ground.guard }], guard := some (29, false) }) (v := ?_) rfl (by kernel_rfl) (by kernel_rfl) (by kernel_rfl) (fun _ _ _ h => h) (Or.inl ⟨by rfl, ?_⟩) (by assumption) ?_
            rotate_left 1
            · (intro w' hSw; (try obtain ⟨s0, s1, s2, s3, s4, s5⟩ := hSw); go_simp; try (with_reducible rfl))
            try simp only [Act.put, List.setIfInBounds_toArray, List.set_cons_zero, List.set_cons_succ]
            refine wpAnyH_take (i := 32) (oi := { dst := some 100, op := Op.move (Operand.tmp 99), type := 4, pos := "law.go:54", after := #[{ on := 31, ground := Ground.data }, { on := 29, ground := Ground.chain }, { on := 29, ground := Ground.guard }], guard := some (29, false) }) (v := ?_) rfl (by kernel_rfl) (by kernel_rfl) (by kernel_rfl) (fun _ _ _ h => h) (Or.inl ⟨by rfl, ?_⟩) (by assumption) ?_
            rotate_left 1
            · (intro w' hSw; (try obtain ⟨s0, s1, s2, s3, s4, s5⟩ := hSw); go_simp; try (with_reducible rfl))
            try simp only [Act.put, List.setIfInBounds_toArray, List.set_cons_zero, List.set_cons_succ]
            refine wpAnyH_take (i := 33) (oi := { dst := some 101, op := Op.load 40 (Operand.tmp 12), type := 40, pos := "law.go:54", after := #[{ on := 32, ground := Ground.guard }], guard := some (32, true) }) (v := undef) rfl (by kernel_rfl) (by kernel_rfl) (by kernel_rfl) (fun _ _ _ h => h) (Or.inr ⟨by rfl, rfl⟩) (by assumption) ?_
            try simp only [Act.put, List.setIfInBounds_toArray, List.set_cons_zero, List.set_cons_succ]
            refine wpAnyH_take (i := 34) (oi := { dst := some 102, op := Op.build 40 #[], type := 40, pos := "law.go:54", after := #[{ on := 32, ground := Ground.guard }], guard := some (32, true) }) (v := undef) rfl (by kernel_rfl) (by kernel_rfl) (by kernel_rfl) (fun _ _ _ h => h) (Or.inr ⟨by rfl, rfl⟩) (by assumption) ?_
            try simp only [Act.put, List.setIfInBounds_toArray, List.set_cons_zero, List.set_cons_succ]
            refine wpAnyH_take (i := 35) (oi := { dst := some 103, op := Op.binOp BinOp.neq 40 (Operand.tmp 101) (Operand.tmp 102) 40, type := 4, pos := "law.go:54", after := #[{ on := 33, ground := Ground.data }, { on := 34, ground := Ground.data }, { on := 32, ground := Ground.guard }], guard := some (32, true) }) (v := undef) rfl (by kernel_rfl) (by kernel_rfl) (by kernel_rfl) (fun _ _ _ h => h) (Or.inr ⟨by rfl, rfl⟩) (by assumption) ?_
            try simp only [Act.put, List.setIfInBounds_toArray, List.set_cons_zero, List.set_cons_succ]
            refine wpAnyH_take (i := 36) (oi := { dst := some 104, op := Op.pick (Operand.tmp 100) (Operand.tmp 103) (Operand.const (Value.bool false)), type := 4, pos := "law.go:54", after := #[{ on := 32, ground := Ground.data }, { on := 35, ground := Ground.data }, { on := 29, ground := Ground.guard }], guard := some (29, false) }) (v := ?_) rfl (by kernel_rfl) (by kernel_rfl) (by kernel_rfl) (fun _ _ _ h => h) (Or.inl ⟨by rfl, ?_⟩) (by assumption) ?_
            rotate_left 1
            · (intro w' hSw; (try obtain ⟨s0, s1, s2, s3, s4, s5⟩ := hSw); go_simp; try (with_reducible rfl))
            try simp only [Act.put, List.setIfInBounds_toArray, List.set_cons_zero, List.set_cons_succ]
            refine wpAnyH_take (i := 37) (oi := { dst := some 105, op := Op.pick (Operand.tmp 97) (Operand.const (Value.bool true)) (Operand.tmp 104), type := 4, pos := "law.go:54", after := #[{ on := 29, ground := Ground.data }, { on := 36, ground := Ground.data }], guard := none }) (v := ?_) rfl (by kernel_rfl) (by kernel_rfl) (by kernel_rfl) (fun _ _ _ h => h) (Or.inl ⟨by rfl, ?_⟩) (by assumption) ?_
            rotate_left 1
            · (intro w' hSw; (try obtain ⟨s0, s1, s2, s3, s4, s5⟩ := hSw); go_simp; try (with_reducible rfl))
            try simp only [Act.put, List.setIfInBounds_toArray, List.set_cons_zero, List.set_cons_succ]
            refine wpAnyH_take (i := 38) (oi := { dst := some 106, op := Op.move (Operand.tmp 105), type := 4, pos := "law.go:54", after := #[{ on := 37, ground := Ground.data }, { on := 32, ground := Ground.chain }], guard := none }) (v := ?_) rfl (by kernel_rfl) (by kernel_rfl) (by kernel_rfl) (fun _ _ _ h => h) (Or.inl ⟨by rfl, ?_⟩) (by assumption) ?_
            rotate_left 1
            · (intro w' hSw; (try obtain ⟨s0, s1, s2, s3, s4, s5⟩ := hSw); go_simp; try (with_reducible rfl))
            try simp only [Act.put, List.setIfInBounds_toArray, List.set_cons_zero, List.set_cons_succ]
            refine wpAnyH_take (i := 39) (oi := { dst := some 107, op := Op.move (Operand.tmp 0), type := 25, pos := "law.go:54", after := #[{ on := 38, ground := Ground.guard }], guard := some (38, false) }) (v := ?_) rfl (by kernel_rfl) (by kernel_rfl) (by kernel_rfl) (fun _ _ _ h => h) (Or.inl ⟨by rfl, ?_⟩) (by assumption) ?_
            rotate_left 1
            · (intro w' hSw; (try obtain ⟨s0, s1, s2, s3, s4, s5⟩ := hSw); go_simp; try (with_reducible rfl))
            try simp only [Act.put, List.setIfInBounds_toArray, List.set_cons_zero, List.set_cons_succ]
            refine wpAnyH_take (i := 40) (oi := { dst := some 108, op := Op.move (Operand.tmp 3), type := 9, pos := "law.go:54", after := #[{ on := 38, ground := Ground.guard }], guard := some (38, false) }) (v := ?_) rfl (by kernel_rfl) (by kernel_rfl) (by kernel_rfl) (fun _ _ _ h => h) (Or.inl ⟨by rfl, ?_⟩) (by assumption) ?_
            rotate_left 1
            · (intro w' hSw; (try obtain ⟨s0, s1, s2, s3, s4, s5⟩ := hSw); go_simp; try (with_reducible rfl))
            try simp only [Act.put, List.setIfInBounds_toArray, List.set_cons_zero, List.set_cons_succ]
            refine wpAnyH_take (i := 42) (oi := { dst := some 110, op := Op.load 29 (Operand.tmp 5), type := 29, pos := "law.go:54", after := #[{ on := 38, ground := Ground.guard }], guard := some (38, false) }) (v := ?_) rfl (by kernel_rfl) (by kernel_rfl) (by kernel_rfl) (fun _ _ _ h => h) (Or.inl ⟨by rfl, ?_⟩) (by assumption) ?_
            rotate_left 1
            · (intro w' hSw; (try obtain ⟨s0, s1, s2, s3, s4, s5⟩ := hSw); go_simp; try (with_reducible rfl))
            try simp only [Act.put, List.setIfInBounds_toArray, List.set_cons_zero, List.set_cons_succ]
            refine wpAnyH_take (i := 43) (oi := { dst := some 111, op := Op.move (Operand.tmp 3), type := 9, pos := "law.go:54", after := #[{ on := 38, ground := Ground.guard }], guard := some (38, false) }) (v := ?_) rfl (by kernel_rfl) (by kernel_rfl) (by kernel_rfl) (fun _ _ _ h => h) (Or.inl ⟨by rfl, ?_⟩) (by assumption) ?_
            rotate_left 1
            · (intro w' hSw; (try obtain ⟨s0, s1, s2, s3, s4, s5⟩ := hSw); go_simp; try (with_reducible rfl))
            try simp only [Act.put, List.setIfInBounds_toArray, List.set_cons_zero, List.set_cons_succ]
            refine wpAnyH_ready (rs := [41]) (by kernel_rfl) (by simp) ?_
            refine (AllReadyH.cons rfl (fun K hK => ?_) AllReadyH.nil)
            · skip
              go_simp
              first
                | (with_reducible refine (KL.out _ HBZ.out).mono ?_); rintro e wA ⟨v9, rfl, hrA, hbA⟩; have RA := Lib.hid hrA; have HBA := Lib.hid (HBZ.out.trans (hbA.mono HBZ.out.size)); clear hrA hbA
                | (with_reducible refine (KL.out _ HBB.out).mono ?_); rintro e wA ⟨v9, rfl, hrA, hbA⟩; have RAf := Lib.hid hrA; have RBf := Lib.hid (RowI.below RB.out hbA); have HBf := Lib.hid (HBB.out.trans (hbA.mono HBB.out.size)); clear hrA hbA
              clear hHeld
              refine hK.out _ _ ?_ (fun hHeld => ?_)
              · (try dsimp only); (first | exact HSX.out _ HBS.out | exact HSX.out _ HBf.out | exact HSX.out _ HBA.out | exact HSX.out _ HBB.out | exact HSX.out _ HBZ.out)
              clear hK K
              refine wpAnyH_ready (rs := [44]) (by kernel_rfl) (by simp) ?_
              refine (AllReadyH.cons rfl (fun K hK => ?_) AllReadyH.nil)
              · skip
                go_simp
                first
                  | (with_reducible refine (KO.out _ HBZ.out).mono ?_); rintro e wB ⟨v10, rfl, hrB, hbB⟩; have RB := Lib.hid hrB; have HBB := Lib.hid (HBZ.out.trans (hbB.mono HBZ.out.size)); clear hrB hbB
                  | (with_reducible refine (KO.out _ HBA.out).mono ?_); rintro e wB ⟨v10, rfl, hrB, hbB⟩; have RBf := Lib.hid hrB; have RAf := Lib.hid (RowI.below RA.out hbB); have HBf := Lib.hid (HBA.out.trans (hbB.mono HBA.out.size)); clear hrB hbB
                clear hHeld
                refine hK.out _ _ ?_ (fun hHeld => ?_)
                · (try dsimp only); (first | exact HSX.out _ HBS.out | exact HSX.out _ HBf.out | exact HSX.out _ HBA.out | exact HSX.out _ HBB.out | exact HSX.out _ HBZ.out)
                clear hK K
                refine wpAnyH_ready (rs := [45]) (by kernel_rfl) (by simp) ?_
                refine (AllReadyH.cons rfl (fun K hK => ?_) AllReadyH.nil)
                · skip
                  go_simp
                  refine (KS.out _ _ _ RAf.out RBf.out).mono ?_
                  rintro e wS ⟨rfl, hbS⟩
                  have HBS := Lib.hid (HBf.out.trans (hbS.mono HBf.out.size))
                  clear hbS
                  clear hHeld
                  refine hK.out _ _ ?_ (fun hHeld => ?_)
                  · (try dsimp only); (first | exact HSX.out _ HBS.out | exact HSX.out _ HBf.out | exact HSX.out _ HBA.out | exact HSX.out _ HBB.out | exact HSX.out _ HBZ.out)
                  clear hK K
                  refine wpAnyH_take (i := 46) (oi := { dst := some 114, op := Op.unOp UnOp.not 4 (Operand.tmp 113), type := 4, pos := "law.go:54", after := #[{ on := 45, ground := Ground.data }, { on := 38, ground := Ground.guard }], guard := some (38, false) }) (v := ?_) rfl (by kernel_rfl) (by kernel_rfl) (by kernel_rfl) (fun _ _ _ h => h) (Or.inl ⟨by rfl, ?_⟩) (by assumption) ?_
                  rotate_left 1
                  · (intro w' hSw; (try obtain ⟨s0, s1, s2, s3, s4, s5⟩ := hSw); go_simp; try (with_reducible rfl))
                  try simp only [Act.put, List.setIfInBounds_toArray, List.set_cons_zero, List.set_cons_succ]
                  refine wpAnyH_take (i := 47) (oi := { dst := some 115, op := Op.pick (Operand.tmp 106) (Operand.const (Value.bool true)) (Operand.tmp 114), type := 4, pos := "law.go:54", after := #[{ on := 38, ground := Ground.data }, { on := 46, ground := Ground.data }], guard := none }) (v := ?_) rfl (by kernel_rfl) (by kernel_rfl) (by kernel_rfl) (fun _ _ _ h => h) (Or.inl ⟨by rfl, ?_⟩) (by assumption) ?_
                  rotate_left 1
                  · (intro w' hSw; (try obtain ⟨s0, s1, s2, s3, s4, s5⟩ := hSw); go_simp; try (with_reducible rfl))
                  try simp only [Act.put, List.setIfInBounds_toArray, List.set_cons_zero, List.set_cons_succ]
                  refine wpAnyH_done (by kernel_rfl) ?_ _
                  clear hHeld
                  go_wp2_with fail
                  go_meet
                  exact ⟨rfl, HBZY.out.trans (HBS.out.mono HBZY.out.size)⟩
          case rest =>
          obtain ⟨rfl, hbv⟩ := hcut
          rename World => wv
          clear KO KL KS HBW HBD m0 m1 d0 d1 HSX HBZ HBZY
          have KE : Hid (∀ X, Below Y.heap.size Y X → Calls Try.prog 18 #[.pointer (some ⟨T, 0, none⟩)] X fun e W' => ∃ v, e = .returned v ∧ RowE W' Y.heap.size v (edgesR H L) ∧ Below X.heap.size X W') := fun X hX => by
            have hx := HA.out.below hX
            refine (edges_all hx.t hx.c hx.n4 hx.ql).mono ?_
            rintro e W' ⟨v, kl, rfl, hr, hkl, hb⟩
            rw [hx.two.edges hx.c hkl] at hr
            exact ⟨v, rfl, ⟨hr.1, hr.2.imp id fun ⟨g, cap, cur, q1, q2, q3⟩ => ⟨g, cap, cur, q1, Nat.le_trans hX.size q2, q3⟩⟩, hb⟩
          have KF : Hid (∀ X, Below Y.heap.size Y X → Calls Try.prog 26 #[.agg #[.slice aH H.length cH, .slice (some ⟨bl, ol, none⟩) L.length cL]] X fun e W' => ∃ v, e = .returned v ∧ RowF W' Y.heap.size v (edgesR H L) ∧ Below X.heap.size X W') := fun X hX => by
            have hx := HA.out.below hX
            refine (edges14_any aH H cH (some ⟨bl, ol, none⟩) L cL hx.lH hx.lL hx.hH hx.hL).mono ?_
            rintro e W' ⟨v, rfl, hr, hb⟩
            exact ⟨v, rfl, hr.mono hX.size, hb⟩
          have HBD : Hid (Below Y.heap.size Y wv.drew) := hbv.out.trans ((Below.refl wv.heap.size wv).drew.mono hbv.out.size)
          obtain ⟨d0, d1⟩ := HT.out _ HBD.out
          clear hbv
          go_upto_region 13 with fail
          go_cut [15, 16] from 116 to 119 (fun v15 v16 wy => Hid (RowE wy Y.heap.size v15 (edgesR H L)) ∧ Hid (RowF wy Y.heap.size v16 (edgesR H L)) ∧ Hid (Below Y.heap.size Y wy))
          case first =>
            go_region_law (first | (go_simp; go_at_call 18; (with_reducible refine (KE.out _ HBD.out).mono ?_); rintro e wA ⟨v9, rfl, hrA, hbA⟩; have RA := Lib.hid hrA; have HBA := Lib.hid (HBD.out.trans (hbA.mono HBD.out.size)); obtain ⟨dA0, dA1⟩ := HT.out _ HBA.out; clear hrA hbA; go_simp) | (go_simp; go_at_call 18; (with_reducible refine (KE.out _ HBB.out).mono ?_); rintro e wA ⟨v9, rfl, hrA, hbA⟩; have RAf := Lib.hid hrA; have RBf := Lib.hid (rowF_below RB.out hbA); have HBf := Lib.hid (HBB.out.trans (hbA.mono HBB.out.size)); clear hrA hbA; go_simp) | (go_simp; go_at_call 26; (with_reducible refine (KF.out _ HBD.out).mono ?_); rintro e wB ⟨v10, rfl, hrB, hbB⟩; have RB := Lib.hid hrB; have HBB := Lib.hid (HBD.out.trans (hbB.mono HBD.out.size)); obtain ⟨dB0, dB1⟩ := HT.out _ HBB.out; clear hrB hbB; go_simp) | (go_simp; go_at_call 26; (with_reducible refine (KF.out _ HBA.out).mono ?_); rintro e wB ⟨v10, rfl, hrB, hbB⟩; have RBf := Lib.hid hrB; have RAf := Lib.hid (rowE_below RA.out hbB); have HBf := Lib.hid (HBA.out.trans (hbB.mono HBA.out.size)); clear hrB hbB; go_simp))
            all_goals
              go_wp2_with fail
              go_meet
              exact ⟨RAf, RBf, HBf⟩
          case rest =>
          obtain ⟨r15, r16, hby⟩ := hcut
          rename World => wy
          have HR15 := r15
          have HR16 := r16
          have HBY := hby
          clear KE KF HBD d0 d1 r15 r16 hby
          obtain ⟨a15, c15, hv15, hc15⟩ := HR15.out.form
          obtain ⟨a16, c16, hv16, hc16⟩ := HR16.out.form
          have HC15 := Lib.hid hc15
          have HC16 := Lib.hid hc16
          have HEL := Lib.hid (rowE_len HR15.out)
          generalize edgesR H L = E at *
          subst hv15 hv16
          have hel := HEL.out
          unfold maxLen at hel
          have heli : (E.length : Int) ≤ 9223372036854775807 := by omega
          have S0 : Hid (Below wy.heap.size wy wy) := Below.refl _ _
          clear hc15 hc16 hel
          go_wp2
          go_loopw [17] (fun i wr => ∃ j : Nat, i = .int .i64 (j : Int) ∧ j ≤ E.length ∧ Hid (Below wy.heap.size wy wr)) (fun i _ => E.length - (intOf i).toNat)
          case atStart => exact ⟨0, rfl, Nat.zero_le _, S0⟩
          case round =>
            obtain ⟨j, rfl, hj, hb⟩ := hrel
            rename World => wr
            clear S0
            by_cases hlt : j < E.length
            · obtain ⟨g15, e15, eo15, hx15⟩ := HC15.out j hlt
              obtain ⟨g16, e16, eo16, hx16⟩ := HC16.out j hlt
              obtain ⟨p0, p1⟩ := hx15 wr (hb.out.block g15 (World.ownsRow.lt HR15.out g15 eo15).2)
              obtain ⟨q0, q1⟩ := hx16 wr (hb.out.block g16 (World.ownsRow.lt HR16.out g16 eo16).2)
              have HLT := Lib.hid hlt
              have hji : (j : Int) < (E.length : Int) := by omega
              have hjn : (0 : Int) ≤ (j : Int) := Int.natCast_nonneg _
              have HNB := Lib.hid (fun n => below_drewN hb.out n)
              subst e15 e16
              clear hx15 hx16
              generalize E[j] = x at *
              obtain ⟨x1, x2⟩ := x
              replace p0 : wr.cell? ⟨g15, j * 2, none⟩ = some (.int .i64 x1) := p0
              replace p1 : wr.cell? ⟨g15, j * 2 + 1, none⟩ = some (.int .i64 x2) := p1
              replace q0 : wr.cell? ⟨g16, j * 2, none⟩ = some (.int .i64 x1) := q0
              replace q1 : wr.cell? ⟨g16, j * 2 + 1, none⟩ = some (.int .i64 x2) := q1
              go_upto_region 19 with fail
              go_quiet (fail)
              go_wp2
              go_roundw
              case rel => exact ⟨j + 1, by go_num, HLT.out, HNB.out _⟩
              case measure => simp [intOf]; have := HLT.out; omega
            · obtain rfl : j = E.length := by omega
              have HBR2 := Lib.hid (HBY.out.trans (hb.out.mono HBY.out.size))
              have HQ := Lib.hid (HB.out.trans (HBR2.out.mono HB.out.size))
              clear HR15 HR16 hb
              go_wp2
              go_ret
              exact ⟨rfl, by first | exact HQ.out | (rw [hN2.out]; exact HQ.out)⟩
end
end Go.Proofs.Ytjojempjmpaaaaa
