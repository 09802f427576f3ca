/-
  THE WALK OF (*Set).drop.
-/
import Derived.Test.YtjpllcdjiagjlaaSetDrop
namespace Go.Proofs.Ytjpllcdjiagjlaa
open Go.RowKit

theorem del_left {W2 W : World} {B : Nat → Prop} {S G C : Nat} {cnt : Int} {bl : List Blk} (hm : SetMid W2 B S G C cnt bl) (hb : Below W2.heap.size W2 W) {p q k : Nat} (hp : p < bl.length) (hk : (bl.getD p noBlk).xs.length = k + 1) (hq : q < k + 1) (hB : Bd B W2.heap.size) :
    Calls Try.prog 31 #[.slice (some ⟨(bl.getD p noBlk).g, 0, none⟩) (k + 1) (bl.getD p noBlk).cap, .int .i64 q, .int .i64 (q + 1)] W fun e w' =>
      ∃ b' : Blk, e = .returned (.slice (some ⟨b'.g, 0, none⟩) k b'.cap) ∧ Hid (b'.xs = cutX (bl.getD p noBlk).xs q) ∧ Hid (SetMid (w'.setCell ⟨G, p, none⟩ (.slice (some ⟨b'.g, 0, none⟩) k b'.cap)) B S G C cnt (bl.set p b')) ∧
        w'.cell? ⟨S, 0, none⟩ = some (.slice (some ⟨G, 0, none⟩) bl.length C) ∧ w'.cell? ⟨G, p, none⟩ = some (.slice (some ⟨(bl.getD p noBlk).g, 0, none⟩) (k + 1) (bl.getD p noBlk).cap) ∧ w'.frozen? ⟨G, p, none⟩ = false ∧
        Hid (Stay B W2 (w'.setCell ⟨G, p, none⟩ (.slice (some ⟨b'.g, 0, none⟩) k b'.cap))) := by
  have hmW := hm.below hb
  have h := delInt_any (bl.getD p noBlk) q 0 W (hmW.rows _ (getD_mem hp)) (by omega)
  unfold Blk.val at h
  rw [hk] at h
  refine h.mono ?_
  rintro e w' ⟨b', rfl, hg, hcp, hx, hrow, hgr⟩
  have hl : b'.xs.length = k := by rw [hx]; have := cutX_len (bl.getD p noBlk).xs q (by omega); unfold cutX at this; rw [this, hk]; omega
  have hrow2 : w'.ownsRow 0 3 1 b'.val b'.xs.length (ints b'.xs) := hrow
  obtain ⟨q1, q0, q2, q3, q4⟩ := join_left hmW hp b' hrow2 hgr (.inl hg) (stay_of hb hB) (Bd.mono hB hb.size)
  unfold Blk.val at q1 q2 q4
  rw [hl] at q1 q4
  rw [hk] at q2
  exact ⟨b', by rw [hl], hx, q1, q0, q2, q3, q4⟩

/-- What drop leaves. -/
def Dropped (w : World) (B : Nat → Prop) (S p q : Nat) (bl : List Blk) (e : Ending) (w' : World) : Prop := e = .returned (.tuple #[]) ∧ Stay B w w' ∧ ∃ bl', SetIs w' B S bl' ∧ Good bl' ∧ flat bl' = delX bl p q

theorem delX_len (bl : List Blk) (p q : Nat) (hp : p < bl.length) (hq : q < (bl.getD p noBlk).xs.length) : (delX bl p q).length + 1 = (flat bl).length := by
  rw [flat_split bl p hp]
  unfold delX
  simp only [List.length_append]
  rw [cutX_len _ _ hq]
  omega

set_option maxHeartbeats 4000000 in
theorem drop_found (S : Nat) (B : Nat → Prop) (p q k : Nat) (n : Int) (bl : List Blk) (w : World) (hset : SetIs w B S bl) (hg : Good bl) (hB : Bd B w.heap.size)
    (hf : Calls Try.prog 20 #[.pointer (some ⟨S, 0, none⟩), .int .i64 n] w fun e w' => e = .returned (.tuple #[.int .i64 p, .int .i64 q, .bool true]) ∧ Below w.heap.size w w')
    (hp : p < bl.length) (hk : (bl.getD p noBlk).xs.length = k + 1) (hq : q < k + 1) :
    Calls Try.prog 23 #[.pointer (some ⟨S, 0, none⟩), .int .i64 n] w (Dropped w B S p q bl) := by
  have few := hg.lens
  have hmem := getD_mem hp
  have hk2 := (hg.ne _ hmem).2
  rw [hk] at hk2
  have hlf := hg.few
  rw [flat_len] at hlf
  obtain ⟨cnt, hcn⟩ : ∃ cnt : Int, cnt = ((bl.map (fun b => b.xs.length)).sum : Nat) := ⟨_, rfl⟩
  have hcnt1 : 0 ≤ cnt := by omega
  have hcnt2 : cnt ≤ 100000 := by omega
  have HCN := Lib.hid hcn; clear hcn hlf
  have HF := Lib.hid hf; clear hf
  have HG := Lib.hid hg
  have HP := Lib.hid hp
  have HK := Lib.hid hk
  have HQ := Lib.hid hq
  have HSET := Lib.hid hset
  have HB := Lib.hid hB
  clear hset hg hk
  go_enter Try.func23, Try.ntmps23
  go_wp2_with fail
  refine HF.out.mono ?_
  rintro e w1 ⟨rfl, hb1⟩
  obtain ⟨G, C, hmid⟩ := (HSET.out.below hb1).mid (by have := HP.out; omega)
  rw [← HCN.out] at hmid
  have hs0 := hmid.s0
  have hs1 := hmid.s1
  have hsf := hmid.sf 1
  have HM := Lib.hid hmid; clear hmid
  have HB1 := Lib.hid (stay_of hb1 HB.out); clear hb1
  go_upto_region 3 with (fail)
  generalize hW2 : w1.setCell ⟨S, 1, none⟩ (.int .i64 (cnt - 1)) = W2
  have hm2 := HM.out.count (cnt - 1)
  rw [hW2] at hm2
  have hbB : Stay B w W2 := by rw [← hW2]; exact HB1.out.setCell HSET.out.base _
  have hs02 := hm2.s0
  have hg0 := hm2.g0 p hp
  have hgf := hm2.gf p
  have HM2 := Lib.hid hm2; clear hm2
  have HBW := Lib.hid hbB; clear hbB
  clear hs0 hs1 hsf HM HB1 hW2 hB
  have HI := Lib.hid (del_left HM2.out (Below.drew (Below.refl _ _)) hp HK.out HQ.out (Bd.mono HB.out HBW.out.size))
  have hpl : (p : Int) < (bl.length : Int) := by omega
  obtain ⟨b, hb⟩ : ∃ b, b = bl.getD p noBlk := ⟨_, rfl⟩
  have HBB := Lib.hid hb
  unfold Blk.val at hg0
  rw [HK.out] at hg0
  rw [← hb] at HI hg0
  obtain ⟨m, hm⟩ : ∃ m, m = bl.length := ⟨_, rfl⟩
  have HMM := Lib.hid hm
  rw [← hm] at HI hs02 hpl few
  clear hb hm hmem hp
  have lS := cell_lt hs02
  have lG := cell_lt hg0
  go_cut [] (fun wx => ∃ b' : Blk, Hid (b'.xs = cutX b.xs q) ∧ Hid (SetMid wx B S G C (cnt - 1) (bl.set p b')) ∧ Hid (Stay B W2 wx))
  case first =>
    have hwr : IntKind.i64.wrap ((q : Int) + 1) = (q : Int) + 1 := by rw [IntKind.wrap_i64]; omega
    go_region_with (first | (go_at_call 31; refine HI.out.mono ?_; rintro e w' ⟨b', rfl, hbx, hbm, z0, z1, z2, hbb⟩))
    all_goals (go_wp2_with fail; go_meet)
    all_goals exact ⟨b', hbx, hbm, hbb⟩
  case rest =>
    obtain ⟨b', hbx, hbm, hbb⟩ := hcut
    have hlb : b'.xs.length = k := by rw [hbx.out, cutX_len _ _ (by rw [HBB.out, HK.out]; exact HQ.out), HBB.out, HK.out]; omega
    have hset : (bl.set p b').length = m := by rw [List.length_set, HMM.out]
    have t0 := hbm.out.s0
    have t1 := hbm.out.g0 p (by rw [List.length_set]; exact HP.out)
    rw [set_getD HP.out] at t1
    unfold Blk.val at t1
    rw [hlb] at t1
    rw [hset] at t0
    have HLB := Lib.hid hlb; clear hlb
    have HBX := Lib.hid hbx.out; clear hbx
    rw [HBB.out] at HBX
    have HBT := Lib.hid (HBW.out.trans hbb.out); clear hbb HBW HI HM2
    clear hs02 hg0 hgf lS lG
    have lS := cell_lt t0
    by_cases hk0 : k = 0
    · subst hk0
      have hR := rem_left hbm.out (i := p) (by rw [List.length_set]; exact HP.out) (Bd.mono HB.out HBT.out.size) HBT.out
      rw [hset] at hR
      have HR := Lib.hid hR; clear hR hset
      go_wp2_with fail
      refine HR.out.mono ?_
      rintro e w4 ⟨rfl, HS, ⟨x, hx⟩, hfz, hbw⟩
      have HB4 := Lib.hid hbw; clear hbw
      clear t0 t1 lS HR
      go_wp2
      refine bodyPost_ret (v := .tuple #[]) (by simp [results, Try.results23, go_sem]) rfl ⟨rfl, HB4.out.setCell HSET.out.base _, (bl.set p b').take p ++ (bl.set p b').drop (p + 1), ?_⟩
      have hnil : cutX (bl.getD p noBlk).xs q = [] := by rw [← HBX.out]; exact List.length_eq_zero_iff.1 HLB.out
      have hgo := HG.out.gone HP.out hnil
      have heq : (bl.set p b').take p ++ (bl.set p b').drop (p + 1) = bl.take p ++ bl.drop (p + 1) := by
        rw [List.take_set_of_le (Nat.le_refl _), List.drop_set_of_lt (by omega)]
      have hS := HS.out
      rw [heq] at hS ⊢
      refine ⟨hS.is ?_, hgo.1, hgo.2⟩
      have := delX_len bl p q HP.out (by rw [HK.out]; exact HQ.out)
      rw [← flat_len, hgo.2, HCN.out, ← flat_len]; omega
    · have hkz : ((k : Int) == 0) = false := by rw [beq_eq_false_iff_ne]; omega
      have hcu := HG.out.cut HP.out b' HBX.out (by rw [HLB.out]; omega)
      have HJ := Lib.hid (join_any S B G C p (cnt - 1) (bl.set p b') _ hbm.out hcu.1 (Bd.mono HB.out HBT.out.size) (by rw [List.length_set]; exact HP.out))
      have HCU := Lib.hid hcu; clear hcu
      go_wp2_with fail
      refine HJ.out.mono ?_
      rintro e w4 ⟨rfl, hb4, bl4, hm4, hg4, hf4, hl4⟩
      rw [List.length_set] at hl4
      have hsz := (HBT.out.trans hb4).size
      have HJ2 := Lib.hid (join_before S B G C p (cnt - 1) bl4 w4 hm4 hg4 (Bd.mono HB.out hsz) (by have := HP.out; omega))
      have HB4 := Lib.hid (HBT.out.trans hb4)
      have HF4 := Lib.hid hf4
      clear t0 t1 lS HJ hb4 hm4 hg4 hf4 hl4 hsz
      go_wp2_with fail
      refine HJ2.out.mono ?_
      rintro e w5 ⟨rfl, hb5, bl5, hm5, hg5, hf5, hl5⟩
      have HB5 := Lib.hid (HB4.out.trans hb5)
      have HM5 := Lib.hid hm5
      have HG5 := Lib.hid hg5
      have HF5 := Lib.hid hf5
      clear hb5 hm5 hg5 hf5 hl5 HJ2
      go_wp2
      go_end0
      have hfl : flat bl5 = delX bl p q := by rw [HF5.out, HF4.out, HCU.out.2]
      refine ⟨rfl, HB5.out, bl5, HM5.out.is ?_, HG5.out, hfl⟩
      have := delX_len bl p q HP.out (by rw [HK.out]; exact HQ.out)
      rw [← flat_len, hfl, HCN.out, ← flat_len]; omega
end Go.Proofs.Ytjpllcdjiagjlaa
