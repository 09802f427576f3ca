/-
  PoolOwn: the walk.
-/
import Derived.Test.YtpkbopeddhgnlaaGreatDoorPlOwnBase
import Derived.Test.YtpkbopeddhgnlaaGreatDoorPlRefSet
import Derived.Deep.QuietTactic
import Derived.BigQuiet
namespace Go.Proofs.YtpkbopeddhgnlaaGreatDoor
open Go.RowKit
theorem own_sizes {key s : ByteArray} (h1 : kyOk key = true) (h2 : vlOk true s = true) : ∀ i, i < [(key, s)].length → ([(key, s)].getD i noCl).1.size ≤ 281474976710656 ∧ ([(key, s)].getD i noCl).2.size ≤ 281474976710656 := by
  intro i hi
  match i, hi with
  | 0, _ =>
    unfold kyOk at h1
    rw [vl_true] at h2
    simp at h1 h2
    show key.size ≤ _ ∧ s.size ≤ _
    omega
theorem cls_at1 {W : World} {G : Nat} {key s : ByteArray} (c0 : W.cell? ⟨G, 0, none⟩ = some (.string key)) (c1 : W.cell? ⟨G, 1, none⟩ = some (.string s)) : ClsAt W (some ⟨G, 0, none⟩) [(key, s)] := .inr ⟨G, 0, rfl, fun i hi => by
  match i, hi with
  | 0, _ => exact ⟨c0, c1⟩⟩
set_option maxRecDepth 100000 in
set_option maxHeartbeats 8000000 in
theorem poolOwn_walk (key : ByteArray) (h : Bool) (s : ByteArray) (w : World) (ht : Tab w) :
    Calls Tryz.prog 3 #[.string key, .agg #[.bool h, .string s]] w fun x w' => x = .returned (.bool true) ∧ Below w.heap.size w w' := by
  have hb0 := (Below.refl w.heap.size w).alloc (Nat.le_refl _) (.cells #[.bool h, .string s] 23)
  have v0 : (w.alloc (.cells #[.bool h, .string s] 23)).cell? ⟨w.heap.size, 0, none⟩ = some (.bool h) := Dv.new_cell rfl rfl
  have v1 : (w.alloc (.cells #[.bool h, .string s] 23)).cell? ⟨w.heap.size, 1, none⟩ = some (.string s) := Dv.new_cell rfl rfl
  have KS : Hid (∀ X : World, Calls Tryz.prog 5 #[.agg #[.int .i64 1, .int .i64 0, .slice none 0 0], .string key, .agg #[.bool h, .string s], .int .i64 3] X (SetAns 1 0 [] key h s 3 X)) := fun X => refSet_any 1 0 none [] 0 key h s 3 X (by simp) (.inl rfl)
  have KW := Lib.hid (fun W hT => awake13_any W W (Below.refl _ _) hT)
  have HT := Lib.hid ht
  clear ht
  go_enter Tryz.func3, Tryz.ntmps3
  go_upto_region 1 with fail
  generalize w.alloc (.cells #[.bool h, .string s] 23) = X at *
  go_wp2_with fail
  refine (KS.out _).mono ?_
  rintro x w1 hS
  rcases hS with ⟨hne, rfl, hb1⟩ | ⟨he, a, c, rfl, hrow, hb1⟩
  · obtain ⟨E, hE⟩ : ∃ E, E = setE 1 0 [] key h s 3 := ⟨_, rfl⟩
    rw [← hE] at hne ⊢
    have hn0 : (E != 0) = true := by simpa using hne
    have hba := hb1.alloc hb1.size (.cells #[.int .i64 0, .int .i64 0, .slice none 0 0] 26)
    have B1 := Lib.hid (hb0.trans (hba.mono hb0.size))
    clear hE hb1 hba KS v0 v1 hb0
    go_upto_region 2 with fail
    generalize w1.alloc (.cells #[.int .i64 0, .int .i64 0, .slice none 0 0] 26) = Y at *
    go_wp2_with fail
    refine (KW.out _ (HT.out.below B1.out)).mono ?_
    rintro x w2 ⟨rfl, hb2⟩
    have hb3 := B1.out.trans (hb2.mono B1.out.size)
    clear hb2 KW B1
    go_wp2
    go_ret
    exact ⟨rfl, hb3⟩
  · obtain ⟨_, hky, hvl, _, _, h6, _⟩ := setE_ok he
    have hh : h = true := by
      cases h with
      | true => rfl
      | false => exact absurd ⟨rfl, rfl⟩ h6
    subst hh
    have hpg : pgOk 1 3 [(key, s)] = true := put_right he
    have hsz := own_sizes hky hvl
    have hrow : RowC w1 X.heap.size (.slice a 1 c) [(key, s)] := hrow
    rw [show (ptL [] key true s).length = 1 from rfl]
    obtain ⟨G, rfl, hG, c0, c1, f0, f1⟩ := row_cell hrow
    have hXlt : w.heap.size < X.heap.size := Dv.block_lt v1
    have hGlt : G < w1.heap.size := Dv.block_lt c0
    have hba := (Below.refl w1.heap.size w1).alloc (Nat.le_refl _) (.cells #[.int .i64 1, .int .i64 3, .slice (some ⟨G, 0, none⟩) 1 c] 26)
    have p0 : (w1.alloc (.cells #[.int .i64 1, .int .i64 3, .slice (some ⟨G, 0, none⟩) 1 c] 26)).cell? ⟨w1.heap.size, 0, none⟩ = some (.int .i64 1) := Dv.new_cell rfl rfl
    have p1 : (w1.alloc (.cells #[.int .i64 1, .int .i64 3, .slice (some ⟨G, 0, none⟩) 1 c] 26)).cell? ⟨w1.heap.size, 1, none⟩ = some (.int .i64 3) := Dv.new_cell rfl rfl
    have p2 : (w1.alloc (.cells #[.int .i64 1, .int .i64 3, .slice (some ⟨G, 0, none⟩) 1 c] 26)).cell? ⟨w1.heap.size, 2, none⟩ = some (.slice (some ⟨G, 0, none⟩) 1 c) := Dv.new_cell rfl rfl
    have d0 := Dv.keep_cell hba c0
    have d1 := Dv.keep_cell hba c1
    have e0 := kf_cell hba c0 f0
    have e1 := kf_cell hba c1 f1
    have u1 := Dv.keep_cell hba (Dv.keep_cell hb1 v1)
    have BY := Lib.hid (hb0.trans ((hb1.trans (hba.mono hb1.size)).mono hb0.size))
    clear hrow he h6 hky hvl KS v0 v1 hb0 hb1 c0 c1 f0 f1 hba
    generalize hPX : w1.heap.size = PX at *
    go_upto_region 2 with fail
    generalize w1.alloc (.cells #[.int .i64 1, .int .i64 3, .slice (some ⟨G, 0, none⟩) 1 c] 26) = Y at *
    go_wp2_with fail
    refine (KW.out _ (HT.out.below BY.out)).mono ?_
    rintro x w2 ⟨rfl, hb2⟩
    have B2 := Lib.hid (BY.out.trans (hb2.mono BY.out.size))
    have hG2 : G < w2.heap.size := Nat.lt_of_lt_of_le (Dv.block_lt d0) hb2.size
    have q0 := Dv.keep_cell hb2 p0
    have q1 := Dv.keep_cell hb2 p1
    have q2 := Dv.keep_cell hb2 p2
    have r0 := Dv.keep_cell hb2 d0
    have r1 := Dv.keep_cell hb2 d1
    have g0 := kf_cell hb2 d0 e0
    have g1 := kf_cell hb2 d1 e1
    have t1 := Dv.keep_cell hb2 u1
    clear p0 p1 p2 d0 d1 e0 e1 u1 hb2 KW BY hPX
    have KB := Lib.hid (begin_s w2 w2 (Below.refl _ _) (HT.out.below B2.out) 2 (by omega) (by omega) 2 (by omega) (by omega))
    rw [show ((2 : Nat) : Int) = 2 from rfl] at KB
    go_wp2_with fail
    refine KB.out.mono ?_
    rintro x w3 ⟨D, P, L, M, T, Q, MF, rfl, hp3⟩
    have KG := Lib.hid (get_new hp3 (by omega) (by omega) (by omega) (by omega) 1 (by omega) rfl (by simp))
    rw [show ((1 : Nat) : Int) = 1 from rfl] at KG
    clear hp3 KB
    go_wp2_with fail
    refine KG.out.mono ?_
    rintro x w4 ⟨⟨a', c', hx, _⟩, ⟨F, v, hp4⟩, _⟩
    have hx : x = .returned (.tuple #[.agg #[.int .i64 1, .int .i64 0, .slice a' 0 c'], .int .i64 0]) := hx
    subst hx
    obtain ⟨o2, ho2⟩ : ∃ o2, o2 = updF (fun _ => none) 1 (some F) := ⟨_, rfl⟩
    obtain ⟨f2, hf2⟩ : ∃ f2 : Int → FrD, f2 = updV (fun _ => noFr) 1 ⟨0, v, [], 0, 0⟩ := ⟨_, rfl⟩
    have hp4 : PlS w2 w4 D P L M 13 14 T 2 (fun _ => (0, [])) Q 2 MF 1 (updF (fun _ => none) 1 (some F)) (updV (fun _ => noFr) 1 ⟨0, v, [], 0, 0⟩) := hp4
    have eF : o2 1 = some F := by rw [ho2]; unfold updF; rw [if_pos rfl]
    have hO : ∀ i F', o2 i = some F' → i = 1 := fun i F' e => by
      rw [ho2] at e; unfold updF at e
      split at e
      · assumption
      · cases e
    have ef : f2 1 = ⟨0, v, [], 0, 0⟩ := by rw [hf2]; unfold updV; rw [if_pos rfl]
    rw [← ho2, ← hf2] at hp4
    have hb4 := hp4.bw
    have p0 := Dv.keep_cell hb4 q0
    have p1 := Dv.keep_cell hb4 q1
    have p2 := Dv.keep_cell hb4 q2
    have d0 := Dv.keep_cell hb4 r0
    have d1 := Dv.keep_cell hb4 r1
    have hs4 := hb4.size
    have KC : Hid (Calls Tryz.prog 9 #[.pointer (some ⟨Q, 0, none⟩), .agg #[.int .i64 1, .int .i64 3, .slice (some ⟨G, 0, none⟩) 1 c], .int .i64 3] w4 _) := change_any hp4 1 (by decide) eF 3 (some ⟨G, 0, none⟩) c [(key, s)] (by simp) hsz (cls_at1 d0 d1) (.inr ⟨_, _, rfl⟩) hpg (by rw [ef]; show (0 : Int) < 3; decide)
    clear KG ho2 hf2 hp4 hb4 d0 d1
    go_wp2_with fail
    refine KC.out.mono ?_
    rintro x w5 ⟨rfl, ⟨v5, hv5, hp5⟩, _⟩
    have e5 : chFrA (f2 1) 3 v5 [(key, s)] = ⟨3, v5, [(key, s)], 3, 0⟩ := by rw [ef]; rfl
    rw [e5] at hp5
    obtain ⟨f5, hf5⟩ : ∃ f5 : Int → FrD, f5 = updV f2 1 ⟨3, v5, [(key, s)], 3, 0⟩ := ⟨_, rfl⟩
    have ef5 : f5 1 = ⟨3, v5, [(key, s)], 3, 0⟩ := by rw [hf5]; unfold updV; rw [if_pos rfl]
    rw [← hf5] at hp5
    have hb5 := hp5.bw
    have k2 := Dv.keep_cell hb5 q2
    have m0 := Dv.keep_cell hb5 r0
    have m1 := Dv.keep_cell hb5 r1
    have n0 := kf_cell hb5 r0 g0
    have n1 := kf_cell hb5 r1 g1
    have t5 := Dv.keep_cell hb5 t1
    have hlo := hp5.lo
    have htl := hp5.tk.lo
    have hw2 := B2.out.size
    have hp8 := (hp5.rebase B2.out HT.out).otherS (grown_cell w5 G 1 (.string ⟨#[111, 116, 104, 101, 114]⟩)) ⟨by omega, by omega, by omega⟩ ⟨_, m0⟩ (fun i F' e => by have := hlo.2.2 i F' e; omega) (fun i F' r e hr => by
      have := hO i F' e
      subst this
      rw [ef5] at hr
      have := hv5 r hr
      omega) (by omega)
    have t8 : (w5.setCell ⟨G, 1, none⟩ (.string ⟨#[111, 116, 104, 101, 114]⟩)).cell? ⟨w.heap.size, 1, none⟩ = some (.string s) := by
      rw [World.cell?_setCell_other _ _ _ _ (fun e => by injection e with e _; omega)]; exact t5
    have HP8 := Lib.hid hp8
    have T8 := Lib.hid t8
    clear hp5 KC e5 hf5 hb5 p0 p1 p2 q0 q1 q2 r0 r1 g0 g1 t1 hlo htl hv5 hp8 t8 t5 hs4 ef
    go_upto_region 9 with fail
    clear k2 m0 m1 n0 n1
    generalize w5.setCell ⟨G, 1, none⟩ (.string ⟨#[111, 116, 104, 101, 114]⟩) = Y8 at *
    have KG := Lib.hid (get_hit HP8.out 1 (by decide) eF)
    rw [ef5] at KG
    go_wp2_with fail
    refine KG.out.mono ?_
    rintro x w9 ⟨⟨a9, c9, hx, hrow9⟩, hp9, hb9⟩
    have hx : x = .returned (.tuple #[.agg #[.int .i64 1, .int .i64 3, .slice a9 1 c9], .int .i64 0]) := hx
    subst hx
    have hrow9 : RowC w9 Y8.heap.size (.slice a9 1 c9) [(key, s)] := hrow9
    obtain ⟨G9, rfl, hG9, c0, c1, f0, f1⟩ := row_cell hrow9
    have hba := (Below.refl w9.heap.size w9).alloc (Nat.le_refl _) (.cells #[.int .i64 1, .int .i64 3, .slice (some ⟨G9, 0, none⟩) 1 c9] 26)
    have y2 : (w9.alloc (.cells #[.int .i64 1, .int .i64 3, .slice (some ⟨G9, 0, none⟩) 1 c9] 26)).cell? ⟨w9.heap.size, 2, none⟩ = some (.slice (some ⟨G9, 0, none⟩) 1 c9) := Dv.new_cell rfl rfl
    have d0 := Dv.keep_cell hba c0
    have d1 := Dv.keep_cell hba c1
    have e0 := kf_cell hba c0 f0
    have e1 := kf_cell hba c1 f1
    have t10 := Dv.keep_cell hba (Dv.keep_cell hb9 T8.out)
    have hT8 : w.heap.size < Y8.heap.size := Dv.block_lt T8.out
    have HP10 := Lib.hid (hp9.below hba)
    clear hrow9 hp9 hb9 c0 c1 f0 f1 hba KG T8
    have hss : (s.toList != s.toList) = false := by simp
    go_upto_region 10 with fail
    generalize w9.heap.size = YB at *
    generalize w9.alloc (.cells #[.int .i64 1, .int .i64 3, .slice (some ⟨G9, 0, none⟩) 1 c9] 26) = Y10 at *
    go_quiet (fail)
    have y2 := (show (Y10.drewN nq).cell? _ = _ from y2)
    have d0 := (show (Y10.drewN nq).cell? _ = _ from d0)
    have e0 := (show (Y10.drewN nq).frozen? _ = _ from e0)
    have t10 := (show (Y10.drewN nq).cell? _ = _ from t10)
    have HP11 := Lib.hid (HP10.out.below (below_drewN (Below.refl Y10.heap.size Y10) nq))
    clear HP10 d1 e1
    generalize Y10.drewN nq = V at *
    have hlt := HP8.out.lts
    have hltk := HP8.out.tk.lts
    have hbw := HP8.out.bw.size
    have hp12 := HP11.out.otherS (grown_cell V G9 0 (.string ⟨#[122, 122]⟩)) ⟨by omega, by omega, by omega⟩ ⟨_, d0⟩ (fun i F' e => by have := hlt.2.2 i F' e; omega) (fun i F' r e hr => by have := row_lt (HP8.out.fr i F' e).row hr; omega) (by omega)
    have hWG : w.heap.size ≠ G9 := by omega
    have t12 : (V.setCell ⟨G9, 0, none⟩ (.string ⟨#[122, 122]⟩)).cell? ⟨w.heap.size, 1, none⟩ = some (.string s) := by
      rw [World.cell?_setCell_other _ _ _ _ (fun e => by injection e with e _; omega)]; exact t10
    have HP12 := Lib.hid hp12
    have T12 := Lib.hid t12
    clear HP11 hp12 t12 hlt hltk hbw t10 hss HP8
    go_upto_region 13 with fail
    clear y2 d0 e0
    generalize V.setCell ⟨G9, 0, none⟩ (.string ⟨#[122, 122]⟩) = Y12 at *
    have KG := Lib.hid (get_hit HP12.out 1 (by decide) eF)
    rw [ef5] at KG
    go_wp2_with fail
    refine KG.out.mono ?_
    rintro x w13 ⟨⟨a13, c13, hx, hrow13⟩, hp13, hb13⟩
    have hx : x = .returned (.tuple #[.agg #[.int .i64 1, .int .i64 3, .slice a13 1 c13], .int .i64 0]) := hx
    subst hx
    have hrow13 : RowC w13 Y12.heap.size (.slice a13 1 c13) [(key, s)] := hrow13
    obtain ⟨G13, rfl, hG13, c0, c1, _, _⟩ := row_cell hrow13
    have hba := (Below.refl w13.heap.size w13).alloc (Nat.le_refl _) (.cells #[.int .i64 1, .int .i64 3, .slice (some ⟨G13, 0, none⟩) 1 c13] 26)
    have z2 : (w13.alloc (.cells #[.int .i64 1, .int .i64 3, .slice (some ⟨G13, 0, none⟩) 1 c13] 26)).cell? ⟨w13.heap.size, 2, none⟩ = some (.slice (some ⟨G13, 0, none⟩) 1 c13) := Dv.new_cell rfl rfl
    have d0 := Dv.keep_cell hba c0
    have d1 := Dv.keep_cell hba c1
    have t14 := Dv.keep_cell hba (Dv.keep_cell hb13 T12.out)
    have HB := Lib.hid (hp13.below hba).bw
    clear hrow13 hp13 hb13 c0 c1 hba KG T12 HP12
    have hss : (s.toList == s.toList) = true := by simp
    have hkk : (key.toList == key.toList) = true := by simp
    go_upto_region 14 with fail
    generalize w13.heap.size = ZB at *
    generalize w13.alloc (.cells #[.int .i64 1, .int .i64 3, .slice (some ⟨G13, 0, none⟩) 1 c13] 26) = Y14 at *
    go_quiet (fail)
    have HB2 := Lib.hid (HB.out.trans ((below_drewN (Below.refl Y14.heap.size Y14) nq).mono HB.out.size))
    clear HB
    go_wp2
    go_ret
    exact ⟨rfl, HB2.out⟩
end Go.Proofs.YtpkbopeddhgnlaaGreatDoor
