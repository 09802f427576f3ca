/-
  THE CONTRACT OF quadrigaref11.Read.
-/
import Derived.Test.YtcdnkmjjedbbpaaGreatDoorTpRefReadP
import Derived.Test.YtcdnkmjjedbbpaaGreatDoorTpRefLaid
import Derived.Test.YtcdnkmjjedbbpaaGreatDoorTpRef
import Derived.Test.YtcdnkmjjedbbpaaGreatDoorNRefTake
import Derived.IntWalk
import Derived.Deep.RegionLaw
namespace Go.Proofs.YtcdnkmjjedbbpaaGreatDoor
open Go.RowKit
/-- append to a row of cells of the call's own, as a step of a region that draws. -/
theorem step_append_rd {ops : Array Oper} {o : Oper} {a : Act} {w : World} {K : Act → World → Prop} {Q : Exit → Act → World → Prop} {E : Prop}
    (hg : o.guard = none) (s x : Operand) (hop : o.op = Op.call { callee := Callee.builtin Builtin.append, args := #[s, x], argTypes := #[34, 34] })
    (B : Nat) (v : Value) (l : List (ByteArray × ByteArray)) (ad : Addr) (m : List (ByteArray × ByteArray)) (c : Nat) (hs : a.eval s = v) (hown : RowC w B v l) (hx : a.eval x = .slice (some ad) m.length c) (hm : ∀ j u, (clsC m)[j]? = some u → w.cell? (ad.add j) = some u) (h10 : l.length ≤ 1000) (h11 : m.length ≤ 1000) (hB : B ≤ w.heap.size)
    (hK : ∀ v' w', RowC w' B v' (l ++ m) → w.grownBy w' v.ownBlock → K (a.put o.dst v') w') :
    if Region.wanted o (yielded ops a.tmps) = true then Oper.wp Tryz.prog o a w K Q else E := by
  have hw : Region.wanted o (yielded ops a.tmps) = true := by simp [Region.wanted, hg]
  rw [if_pos hw]
  obtain ⟨i0, hi, hzz⟩ := Option.map_eq_some_iff.1 infoC
  simp only [Prod.mk.injEq] at hzz
  obtain ⟨hz0, hz1, hz2⟩ := hzz
  obtain ⟨v', w', hrun, r1, r2, _⟩ := run_append_own (P := Tryz.prog) w B 34 o.type 72 i0 _ 2 32 Tryz.underlying34 hi hz0 hz1 hz2 rfl (by decide) v l.length (clsC l) hown ad m.length c (clsC m) (clsC_len m) hm (cls_one m) (by unfold maxLen; omega) (by omega) hB
  unfold Oper.wp
  simp [execOp, hop, resolve, invoke, builtin, hs, hx, hrun, Result.andThen]
  refine hK v' w' ?_ r2
  unfold RowC
  rw [List.length_append, clsC_append]; exact r1
set_option maxRecDepth 100000 in
set_option maxHeartbeats 4000000 in
theorem refRead_size (s : ByteArray) (w : World) (hz : s.size ≠ 256) :
    Calls Tryz.prog 18 #[.string s] w (TkPg w (readOf s)) := by
  rw [rdIs_size hz]
  have hz2 : ((s.size : Int) == 256) = false := by rw [beq_eq_false_iff_ne]; omega
  have hz3 : ¬ (s.size : Int) = 256 := by omega
  obtain ⟨r0, r1, r2, rf, bw⟩ := tkR_new w 36
  clear hz
  go_enter Tryz.func18, Tryz.ntmps18
  go_upto_region 1 with fail
  generalize w.alloc (.cells #[.int .i64 0, .int .i64 0, .slice none 0 0] 36) = Y at *
  go_wp2
  obtain ⟨X, hX, x0, x1, x2, hbX, _⟩ := set3 (v0 := .int .i64 0) (v1 := .int .i64 0) (v2 := .slice none 0 0) bw (Nat.le_refl _) r0 r1 r2
  rw [← hX]
  refine bodyPost_ret (v := .tuple #[.agg #[.int .i64 0, .int .i64 0, .slice none 0 0], .bool false]) ?_ rfl ⟨rfl, hbX⟩
  simp [results, Tryz.results18, go_sem, x0, x1, x2]
set_option maxRecDepth 100000 in
set_option maxHeartbeats 4000000 in
theorem refRead_main (s : ByteArray) (w : World) (hz : s.size = 256) :
    Calls Tryz.prog 18 #[.string s] w (TkPg w (readOf s)) := by
  have HR0 := Lib.hid (tkR_new w 36)
  obtain ⟨O, hO⟩ : ∃ O, readOf s = O := ⟨_, rfl⟩
  rw [hO]
  have HOO := Lib.hid hO
  clear hO
  have hs : s.size ≤ 1000 := by omega
  have hz1 : ((s.size : Int) != 256) = false := by rw [bne_eq_false_iff_eq]; omega
  have KT := Lib.hid (fun W => refTake_any (s.extract 1 s.size) 8 W (by omega) (by rw [ByteArray.size_extract]; omega))
  have hs0 : 0 < s.size := by omega
  have hs9 : 9 < s.size := by omega
  obtain ⟨no0, hno⟩ : ∃ n, (s[0]'hs0).toNat = n := ⟨_, rfl⟩
  obtain ⟨n9, hn9⟩ : ∃ n, (s[9]'hs9).toNat = n := ⟨_, rfl⟩
  have hno2 : (no0 : Int) ≤ 255 := by have := (s[0]'hs0).toNat_lt; omega
  have hn92 : (n9 : Int) ≤ 255 := by have := (s[9]'hs9).toNat_lt; omega
  have HNO := Lib.hid hno
  have HN9 := Lib.hid hn9
  have c0 : ∀ h : 0 < s.size, (s[0]'h).toNat = no0 := fun _ => hno
  have c9 : ∀ h : 9 < s.size, (s[9]'h).toNat = n9 := fun _ => hn9
  have HZ := Lib.hid hz
  clear hno hn9 hz
  cases hT : takeOf (s.extract 1 s.size) 8 with
  | none =>
    have hO := HOO.out.symm.trans (rdIs_notake hT)
    subst hO
    have hTV : refTakeVal (s.extract 1 s.size) 8 = .tuple #[.int .i64 0, .bool false] := by unfold refTakeVal; rw [hT]
    rw [hTV] at KT
    have T00 := tkW_new HR0.out (block_lt HR0.out.r0) no0 0
    rw [World.size_alloc] at T00
    have T0 := Lib.hid T00
    clear T00 hTV hT HOO
    go_enter Tryz.func18, Tryz.ntmps18
    go_wp2_with fail
    refine (KT.out _).mono ?_
    rintro e w1 ⟨rfl, rfl⟩
    clear KT
    go_wp2
    generalize (w.alloc (.cells #[.int .i64 0, .int .i64 0, .slice none 0 0] 36)).alloc (.cells #[.int .i64 no0, .int .i64 0, .slice none 0 0] 36) = W0 at *
    go_loopw [5, 7, 8] (fun ok at' i wr => i = .int .i64 0 ∧ at' = .int .i64 10 ∧ ok = .bool false ∧ Hid (TkW w wr (w.heap.size + 1) no0 0 (.slice none 0 0) [])) (fun _ _ i _ => 8 - (intOf i).toNat)
    case atStart => exact ⟨rfl, rfl, rfl, T0⟩
    case round =>
      obtain ⟨rfl, rfl, rfl, HW⟩ := hrel
      rename World => wa
      obtain ⟨r0, r1, r2, rf, bw⟩ := HW.out.res
      have hq : (n9 : Int) ≤ 0 ∨ 0 < (n9 : Int) := by omega
      clear HW T0 HR0
      rcases hq with hq | hq
      all_goals
        go_wp2
        obtain ⟨X, hX, x0, x1, x2, hbX, _⟩ := set3 (v0 := .int .i64 0) (v1 := .int .i64 0) (v2 := .slice none 0 0) bw (Nat.le_refl _) r0 r1 r2
        rw [← hX]
        refine bodyPost_ret (v := .tuple #[.agg #[.int .i64 0, .int .i64 0, .slice none 0 0], .bool false]) ?_ rfl ⟨rfl, hbX⟩
        simp [results, Tryz.results18, go_sem, x0, x1, x2]
  | some q =>
    obtain ⟨g0, r⟩ := q
    have hTV : refTakeVal (s.extract 1 s.size) 8 = .tuple #[.int .i64 g0, .bool true] := by unfold refTakeVal; rw [hT]
    rw [hTV] at KT
    have HT := Lib.hid hT
    clear hTV hT
    go_enter Tryz.func18, Tryz.ntmps18
    have T00 := tkW_new HR0.out (block_lt HR0.out.r0) no0 g0
    rw [World.size_alloc] at T00
    have T0 := Lib.hid T00
    clear T00
    have KR := Lib.hid (fun l a c W (hl : l.length ≤ 1000) (ha : ClsAt W a l) => refRight_any no0 g0 a l c W (by unfold maxLen; omega) ha)
    have KL := Lib.hid (fun l a c W (ha : ClsAt W a l) (hk : pgOk no0 g0 l = true) => refPgLaid_any no0 g0 a l c W ha hk)
    have HI0 := Lib.hid (rdIs_zero s)
    go_wp2_with fail
    refine (KT.out _).mono ?_
    rintro e w1 ⟨rfl, rfl⟩
    clear KT
    go_wp2
    generalize (w.alloc (.cells #[.int .i64 0, .int .i64 0, .slice none 0 0] 36)).alloc (.cells #[.int .i64 no0, .int .i64 g0, .slice none 0 0] 36) = W0 at *
    go_loopw [5, 7, 8] (fun ok at' i wr => ∃ (k p : Nat) (l' : List (ByteArray × ByteArray)) (v : Value), k ≤ 8 ∧ i = .int .i64 k ∧ at' = .int .i64 p ∧ p ≤ 10 + 26 * k ∧ l'.length = k ∧ ok = .bool true ∧ Hid (RdIs s k p l') ∧ Hid (TkW w wr (w.heap.size + 1) no0 g0 v l')) (fun _ _ i _ => 8 - (intOf i).toNat)
    case atStart => exact ⟨0, 10, [], _, by omega, rfl, rfl, by omega, rfl, rfl, HI0, T0⟩
    case round =>
      obtain ⟨k, p, l', v, hk, rfl, rfl, hp, hl, rfl, HI, HW⟩ := hrel
      rename World => wa
      clear HI0 T0 HR0
      by_cases hlt : k < n9 ∧ k < 8
      · obtain ⟨hk1, hk8⟩ := hlt
        have hps : p < s.size := by have := HZ.out; omega
        have hsz : (s.size : Int) = 256 := by have := HZ.out; omega
        have HSZ := Lib.hid hsz
        clear hsz
        obtain ⟨n, hn⟩ : ∃ n, (s[p]'hps).toNat = n := ⟨_, rfl⟩
        have hn2 : (n : Int) ≤ 255 := by have := (s[p]'hps).toNat_lt; omega
        have cp : ∀ h : p < s.size, (s[p]'h).toNat = n := fun _ => hn
        have HN := Lib.hid hn
        clear hn
        have hk1i : (k : Int) < (n9 : Int) := by omega
        have hk8i : (k : Int) < 8 := by omega
        by_cases hn8 : n ≤ 8
        · have hn8i : (n : Int) ≤ 8 := by omega
          have hqs : p + 1 + n < s.size := by have := HZ.out; omega
          obtain ⟨m, hm⟩ : ∃ m, (s[p + 1 + n]'hqs).toNat = m := ⟨_, rfl⟩
          have hm2 : (m : Int) ≤ 255 := by have := (s[p + 1 + n]'hqs).toNat_lt; omega
          have hpi : (p : Int) ≤ 200 := by omega
          have hqi : ((p : Int) + 1 + (n : Int)).toNat = p + 1 + n := by omega
          have hqi2 : (p : Int) + 1 + (n : Int) < (s.size : Int) := by omega
          have cq : ∀ h : p + 1 + n < s.size, (s[p + 1 + n]'h).toNat = m := fun _ => hm
          have cq' : ∀ h : ((p : Int) + 1 + (n : Int)).toNat < s.size, (s[((p : Int) + 1 + (n : Int)).toNat]'h).toNat = m := fun h => by
            have : ∀ (j : Nat) (hj : j < s.size), j = p + 1 + n → (s[j]'hj).toNat = m := fun j hj e => by subst e; exact hm
            exact this _ h hqi
          clear hqi
          have HM := Lib.hid hm
          clear hm
          by_cases hm16 : m ≤ 16
          · have hm16i : (m : Int) ≤ 16 := by omega
            have HI2 := Lib.hid (rdIs_next HI.out hs9 (by rw [HN9.out]; exact hk1) hps HN.out hqs HM.out)
            have hz256 := HZ.out
            have w1 := Lib.hid (show IntKind.i64.wrap ((p : Int) + 1) = (p : Int) + 1 from IntWalk.i64_in _ (by omega))
            have w2 := Lib.hid (show IntKind.i64.wrap ((p : Int) + 1 + (n : Int)) = (p : Int) + 1 + (n : Int) from IntWalk.i64_in _ (by omega))
            have w3 := Lib.hid (show IntKind.i64.wrap ((p : Int) + 2) = (p : Int) + 2 from IntWalk.i64_in _ (by omega))
            have w4 := Lib.hid (show IntKind.i64.wrap ((p : Int) + 2 + (n : Int)) = (p : Int) + 2 + (n : Int) from IntWalk.i64_in _ (by omega))
            have w5 := Lib.hid (show IntKind.i64.wrap ((p : Int) + 2 + (n : Int) + (m : Int)) = (p : Int) + 2 + (n : Int) + (m : Int) from IntWalk.i64_in _ (by omega))
            have t1 := Lib.hid (show ((p : Int) + 1).toNat = p + 1 by omega)
            have t2 := Lib.hid (show ((p : Int) + 1 + (n : Int)).toNat = p + 1 + n by omega)
            have t4 := Lib.hid (show ((p : Int) + 2 + (n : Int)).toNat = p + 2 + n by omega)
            have t5 := Lib.hid (show ((p : Int) + 2 + (n : Int) + (m : Int)).toNat = p + 2 + n + m by omega)
            have u1 := Lib.hid (show 0 ≤ (p : Int) + 1 by omega)
            have u2 := Lib.hid (show 0 ≤ (p : Int) + 1 + (n : Int) by omega)
            have u3 := Lib.hid (show (p : Int) + 1 + (n : Int) ≤ (s.size : Int) by omega)
            have u4 := Lib.hid (show (p : Int) + 1 ≤ (p : Int) + 1 + (n : Int) by omega)
            have u5 := Lib.hid (show 0 ≤ (p : Int) + 2 + (n : Int) by omega)
            have u6 := Lib.hid (show 0 ≤ (p : Int) + 2 + (n : Int) + (m : Int) by omega)
            have u7 := Lib.hid (show (p : Int) + 2 + (n : Int) + (m : Int) ≤ (s.size : Int) by omega)
            have u8 := Lib.hid (show (p : Int) + 2 + (n : Int) ≤ (p : Int) + 2 + (n : Int) + (m : Int) by omega)
            clear hz256
            have hyz : Below wa.heap.size wa (wa.alloc (.cells #[.string (s.extract (p + 1) (p + 1 + n)), .string (s.extract (p + 2 + n) (p + 2 + n + m))] 72)).drew := ((Below.refl _ _).alloc (Nat.le_refl _) _).drew
            have T7 := Lib.hid (HW.out.below hyz)
            have HPZ : Hid (w.heap.size + 1 + 1 ≤ (wa.alloc (.cells #[.string (s.extract (p + 1) (p + 1 + n)), .string (s.extract (p + 2 + n) (p + 2 + n + m))] 72)).drew.heap.size) := block_lt T7.out.p0
            have MZ : Hid (∀ j u, (clsC [(s.extract (p + 1) (p + 1 + n), s.extract (p + 2 + n) (p + 2 + n + m))])[j]? = some u → (wa.alloc (.cells #[.string (s.extract (p + 1) (p + 1 + n)), .string (s.extract (p + 2 + n) (p + 2 + n + m))] 72)).drew.cell? ((⟨wa.heap.size, 0, none⟩ : Addr).add j) = some u) := fun j u hj => by
              match j, hj with
              | 0, hj => exact (new_cell rfl rfl).trans hj
              | 1, hj => exact (new_cell rfl rfl).trans hj
            clear hyz
            have q2 := HW.out.p2
            have qf := HW.out.pf
            have qy := keep_alloc (o := .cells #[.string (s.extract (p + 1) (p + 1 + n)), .string (s.extract (p + 2 + n) (p + 2 + n + m))] 72) q2
            go_upto_region 15 with fail
            have w1 := w1.out
            have w2 := w2.out
            have w3 := w3.out
            have w4 := w4.out
            have w5 := w5.out
            have t1 := t1.out
            have t2 := t2.out
            have t4 := t4.out
            have t5 := t5.out
            have u1 := u1.out
            have u2 := u2.out
            have u3 := u3.out
            have u4 := u4.out
            have u5 := u5.out
            have u6 := u6.out
            have u7 := u7.out
            have u8 := u8.out
            obtain ⟨x, hx⟩ : ∃ x, s.extract (p + 1) (p + 1 + n) = x := ⟨_, rfl⟩
            obtain ⟨y, hy⟩ : ∃ y, s.extract (p + 2 + n) (p + 2 + n + m) = y := ⟨_, rfl⟩
            rw [hx, hy] at T7 HPZ MZ qy HI2
            go_region_law ((refine step_append_rd (by rfl) _ _ (by rfl) (w.heap.size + 1 + 1) v l' ⟨wa.heap.size, 0, none⟩ [(x, y)] 1 (by rfl) T7.out.row (by rfl) MZ.out (by omega) (by simp) HPZ.out ?_; intro v9 w9 r9 hg9; obtain ⟨a9, c9, rfl, _⟩ := r9.cls; generalize hn9 : (l' ++ [(x, y)]).length = n9' at r9 ⊢; clear hn9; have qz := (T7.out.there hg9).1; have qf := (T7.out.there hg9).2; have T9 := Lib.hid (T7.out.put r9 hg9); clear r9 hg9 T7 MZ HPZ))
            all_goals clear w1 w2 w3 w4 w5 t1 t2 t4 t5 hx hy
            all_goals go_wp2
            all_goals
              go_roundw
              case rel => exact ⟨k + 1, p + 2 + n + m, l' ++ [(x, y)], _, by omega, by go_num, by go_num, by omega, by (simp only [List.length_append, List.length_cons, List.length_nil]; omega), rfl, HI2, T9⟩
              case measure => simp [intOf]; omega
          · have hm16i : ¬ (m : Int) ≤ 16 := by omega
            have hm16d : decide ((m : Int) ≤ 16) = false := decide_eq_false hm16i
            have hO := rdIs_val HI.out hs9 (by rw [HN9.out]; exact hk1) hps HN.out hqs (by rw [HM.out]; omega)
            have hO2 := HOO.out.symm.trans hO
            subst hO2
            clear hO
            go_upto_region 17 with fail
            obtain ⟨r0, r1, r2, rf, bw⟩ := HW.out.res
            clear HW
            go_wp2
            obtain ⟨X, hX, x0, x1, x2, hbX, _⟩ := set3 (v0 := .int .i64 0) (v1 := .int .i64 0) (v2 := .slice none 0 0) bw (Nat.le_refl _) r0 r1 r2
            rw [← hX]
            refine bodyPost_ret (v := .tuple #[.agg #[.int .i64 0, .int .i64 0, .slice none 0 0], .bool false]) ?_ rfl ⟨rfl, hbX⟩
            simp [results, Tryz.results18, go_sem, x0, x1, x2]
        · have hn8i : ¬ (n : Int) ≤ 8 := by omega
          have hn8d : decide ((n : Int) ≤ 8) = false := decide_eq_false hn8i
          have hO := rdIs_key HI.out hs9 (by rw [HN9.out]; exact hk1) hps (by rw [HN.out]; omega)
          have hO2 := HOO.out.symm.trans hO
          subst hO2
          clear hO
          go_upto_region 17 with fail
          obtain ⟨r0, r1, r2, rf, bw⟩ := HW.out.res
          clear HW
          go_wp2
          obtain ⟨X, hX, x0, x1, x2, hbX, _⟩ := set3 (v0 := .int .i64 0) (v1 := .int .i64 0) (v2 := .slice none 0 0) bw (Nat.le_refl _) r0 r1 r2
          rw [← hX]
          refine bodyPost_ret (v := .tuple #[.agg #[.int .i64 0, .int .i64 0, .slice none 0 0], .bool false]) ?_ rfl ⟨rfl, hbX⟩
          simp [results, Tryz.results18, go_sem, x0, x1, x2]
      · have hO := rdIs_end HI.out hs9 (by rw [HN9.out]; omega) hs0 HNO.out ⟨_, HT.out⟩
        have hO2 := Lib.hid (HOO.out.symm.trans hO)
        clear hO HOO
        subst hl
        obtain ⟨a, c, rfl, hcl, _, _⟩ := HW.out.row.cls
        have HCL := Lib.hid hcl
        have p0 := HW.out.p0
        have p1 := HW.out.p1
        have p2 := HW.out.p2
        have hl10 : l'.length ≤ 1000 := by omega
        have hq : (n9 : Int) ≤ (l'.length : Int) ∨ ((l'.length : Int) < (n9 : Int) ∧ (8 : Int) ≤ (l'.length : Int)) := by omega
        clear hcl hlt
        cases hk2 : pgOk no0 g0 l' with
        | false =>
          have hO3 : O = none := by rw [hO2.out, if_neg (by rw [hk2]; intro h; cases h.1)]
          subst hO3
          have K1 := KR.out l' a c wa hl10 HCL.out
          rw [hk2] at K1
          have K1 := Lib.hid K1
          clear hO2 KL KR hk2
          rcases hq with hq | ⟨hq, hq8⟩
          all_goals
            go_wp2_with fail
            refine K1.out.mono ?_
            rintro e w5 ⟨rfl, hb5⟩
            obtain ⟨r0, r1, r2, rf, bw⟩ := HW.out.res.below hb5
            clear hb5 p0 p1 p2 HW
            go_wp2
            obtain ⟨X, hX, x0, x1, x2, hbX, _⟩ := set3 (v0 := .int .i64 0) (v1 := .int .i64 0) (v2 := .slice none 0 0) bw (Nat.le_refl _) r0 r1 r2
            rw [← hX]
            refine bodyPost_ret (v := .tuple #[.agg #[.int .i64 0, .int .i64 0, .slice none 0 0], .bool false]) ?_ rfl ⟨rfl, hbX⟩
            simp [results, Tryz.results18, go_sem, x0, x1, x2]
        | true =>
          have K1 := KR.out l' a c wa hl10 HCL.out
          rw [hk2] at K1
          have K1 := Lib.hid K1
          have K2 := Lib.hid (fun W (hb : Below wa.heap.size wa W) => KL.out l' a c W (HCL.out.below hb) hk2)
          by_cases hb : pgBytes no0 g0 l' = s
          · have hO3 : O = some (no0, g0, l') := by rw [hO2.out, if_pos ⟨hk2, hb⟩]
            subst hO3
            rw [hb] at K2
            clear hO2 KL KR hk2 hb
            rcases hq with hq | ⟨hq, hq8⟩
            all_goals
              go_wp2_with fail
              refine K1.out.mono ?_
              rintro e w5 ⟨rfl, hb5⟩
              have HW5 := Lib.hid (HW.out.below hb5)
              have K3 := Lib.hid (K2.out w5 hb5)
              clear hb5 p0 p1 p2 HW
              have p0 := HW5.out.p0
              have p1 := HW5.out.p1
              have p2 := HW5.out.p2
              go_wp2_with fail
              refine K3.out.mono ?_
              rintro e w6 ⟨rfl, hb6⟩
              have HW6 := Lib.hid (HW5.out.below hb6)
              clear hb6 p0 p1 p2 HW5 K3 K2 K1
              have p0 := HW6.out.p0
              have p1 := HW6.out.p1
              have p2 := HW6.out.p2
              obtain ⟨r0, r1, r2, rf, bw⟩ := HW6.out.res
              go_wp2
              obtain ⟨X, hX, x0, x1, x2, hbX, hgX⟩ := set3 (v0 := .int .i64 no0) (v1 := .int .i64 g0) (v2 := .slice a l'.length c) bw (Nat.le_refl _) r0 r1 r2
              rw [← hX]
              have RX : RowC X (w.heap.size + 1 + 1) (.slice a l'.length c) l' := World.ownsRow.kept HW6.out.row hgX (by
                cases ho : (Value.slice a l'.length c).ownBlock with
                | none => exact .inl rfl
                | some q => exact .inr (fun e => by
                    injection e with e
                    have := (HW6.out.row.lt q ho).1
                    omega))
              refine bodyPost_ret (v := .tuple #[.agg #[.int .i64 no0, .int .i64 g0, .slice a l'.length c], .bool true]) ?_ rfl ⟨a, c, rfl, RX.base (by omega), hbX⟩
              simp [results, Tryz.results18, go_sem, x0, x1, x2]
          · have hO3 : O = none := by rw [hO2.out, if_neg (fun h => hb h.2)]
            subst hO3
            have hn1 := ba_neL hb
            have hn2 := ba_neL' hb
            generalize pgBytes no0 g0 l' = sb at *
            clear hO2 KL KR hk2 hb
            rcases hq with hq | ⟨hq, hq8⟩
            all_goals
              go_wp2_with fail
              refine K1.out.mono ?_
              rintro e w5 ⟨rfl, hb5⟩
              have HW5 := Lib.hid (HW.out.below hb5)
              have K3 := Lib.hid (K2.out w5 hb5)
              clear hb5 p0 p1 p2 HW
              have p0 := HW5.out.p0
              have p1 := HW5.out.p1
              have p2 := HW5.out.p2
              go_wp2_with fail
              refine K3.out.mono ?_
              rintro e w6 ⟨rfl, hb6⟩
              obtain ⟨r0, r1, r2, rf, bw⟩ := HW5.out.res.below hb6
              clear hb6 p0 p1 p2 HW5 K3 K2 K1
              go_wp2
              obtain ⟨X, hX, x0, x1, x2, hbX, _⟩ := set3 (v0 := .int .i64 0) (v1 := .int .i64 0) (v2 := .slice none 0 0) bw (Nat.le_refl _) r0 r1 r2
              rw [← hX]
              refine bodyPost_ret (v := .tuple #[.agg #[.int .i64 0, .int .i64 0, .slice none 0 0], .bool false]) ?_ rfl ⟨rfl, hbX⟩
              simp [results, Tryz.results18, go_sem, x0, x1, x2]
theorem refRead_any (s : ByteArray) (w : World) :
    Calls Tryz.prog 18 #[.string s] w (TkPg w (readOf s)) := by
  by_cases hz : s.size = 256
  · exact refRead_main s w hz
  · exact refRead_size s w hz
end Go.Proofs.YtcdnkmjjedbbpaaGreatDoor
