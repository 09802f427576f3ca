/-
  THE WALK OF (*Set).add, where a full block is split.
-/
import Derived.Test.YtjpllcdjiagjlaaSetAddWalk
import Derived.Test.YtjpllcdjiagjlaaSetSplit
import Derived.Test.YtjpllcdjiagjlaaSetPure
namespace Go.Proofs.Ytjpllcdjiagjlaa
open Go.RowKit

theorem ins2_eq (bl : List Blk) (p : Nat) (hp : p < bl.length) (lo hi : Blk) : insB (bl.set p lo) (p + 1) hi = bl.take p ++ lo :: hi :: bl.drop (p + 1) := by
  have hl : (bl.take p).length = p := by rw [List.length_take]; omega
  have h1 : (bl.take p ++ [lo]).length = p + 1 := by rw [List.length_append, hl]; rfl
  unfold insB
  rw [List.set_eq_take_append_cons_drop, if_pos hp, show bl.take p ++ lo :: bl.drop (p + 1) = (bl.take p ++ [lo]) ++ bl.drop (p + 1) by simp]
  rw [List.take_left' h1, List.drop_left' h1]
  simp
theorem flat_ins2 (bl : List Blk) (p : Nat) (hp : p < bl.length) (lo hi : Blk) : flat (insB (bl.set p lo) (p + 1) hi) = flat (bl.take p) ++ lo.xs ++ hi.xs ++ flat (bl.drop (p + 1)) := by
  rw [ins2_eq bl p hp, flat_app, flat_cons, flat_cons]
  simp

set_option maxHeartbeats 4000000 in
theorem add_split (S : Nat) (B : Nat → Prop) (p q f : Nat) (a0 : Nat) (n : Int) (bl : List Blk) (w : World) (hset : SetIs w B S bl) (hok : BlOk bl) (h0 : 0 < bl.length) (hB : Bd B w.heap.size)
    (hf : Calls Try.prog 20 #[.pointer (some ⟨S, 0, none⟩), .int .i64 n] w fun e w' => e = .returned (.tuple #[.int .i64 f, .int .i64 a0, .bool false]) ∧ Below w.heap.size w w')
    (hp : p < bl.length) (hq : q ≤ (bl.getD p noBlk).xs.length) (hcase : (f < bl.length ∧ p = f ∧ q = a0) ∨ (f = bl.length ∧ p + 1 = bl.length ∧ q = (bl.getD p noBlk).xs.length)) (hfull : (bl.getD p noBlk).xs.length = 256) :
    Calls Try.prog 22 #[.pointer (some ⟨S, 0, none⟩), .int .i64 n] w fun e w' => e = .returned (.tuple #[]) ∧ (∃ lo hi, SetIs w' B S (insB (bl.set p lo) (p + 1) hi) ∧ lo.xs = (ins (bl.getD p noBlk).xs q n).take 128 ∧ hi.xs = (ins (bl.getD p noBlk).xs q n).drop 128) ∧ Stay B w w' := by
  have HB0 := Lib.hid hB
  have HFEW := Lib.hid hok.few
  have HFULL := Lib.hid hfull
  have hshort : (bl.getD p noBlk).xs.length + 1 ≤ 257 := by omega
  clear hfull
  have hcnt := hset.lens hok
  have hmem := getD_mem hp
  have few := hok.few
  have hblen := (hok.ne _ hmem).2
  obtain ⟨cnt, hcn⟩ : ∃ cnt : Int, cnt = ((bl.map (fun b => b.xs.length)).sum : Nat) := ⟨_, rfl⟩
  have hcnt1 : 0 ≤ cnt := by omega
  have hcnt2 : cnt ≤ 100000000 := by omega
  have HCN := Lib.hid hcn; clear hcn
  have HF := Lib.hid hf; clear hf
  have HC := Lib.hid hcase; clear hcase
  have hne0 : ((bl.length : Int) == 0) = false := by rw [beq_eq_false_iff_ne]; omega
  go_enter Try.func22, Try.ntmps22
  go_wp2_with fail
  refine HF.out.mono ?_
  rintro e w1 ⟨rfl, hb1⟩
  obtain ⟨G, C, hmid⟩ := (hset.below hb1).mid h0
  rw [← HCN.out] at hmid
  have hs0 := hmid.s0
  have hs1 := hmid.s1
  have hsf := hmid.sf 1
  have HM := Lib.hid hmid; clear hmid
  go_upto_if 40 with (fail)
  go_outline
  generalize hW2 : w1.setCell ⟨S, 1, none⟩ (.int .i64 (cnt + 1)) = W2
  have hm2 := HM.out.count (cnt + 1)
  rw [hW2] at hm2
  have hbB : Stay B w W2 := by rw [← hW2]; exact (stay_of hb1 hB).setCell hset.base _
  have hs02 := hm2.s0
  have hg0 := hm2.g0 p hp
  have HM2 := Lib.hid hm2; clear hm2
  have HW2 := Lib.hid hW2; clear hW2
  clear hs0 hs1 hsf HM
  go_cut [4, 5] (fun s4 s5 wx => s4 = .int .i64 p ∧ s5 = .int .i64 q ∧ wx = W2)
  case first =>
    rcases HC.out with ⟨hfl, rfl, rfl⟩ | ⟨hf1, hp1, hq1⟩
    · have hneb : ((p : Int) == (bl.length : Int)) = false := by rw [beq_eq_false_iff_ne]; omega
      clear HC
      go_wp2_with fail
      go_meet
      exact ⟨rfl, rfl, rfl⟩
    · clear HC
      have hneb : ((f : Int) == (bl.length : Int)) = true := by rw [beq_iff_eq]; omega
      have hf2 : (f : Int) - 1 = (p : Int) := by omega
      have hpl : (p : Int) < (bl.length : Int) := by omega
      unfold Blk.val at hg0
      rw [← hq1] at hg0
      clear hf1 hp1 hq1 hq hshort hblen
      go_wp2_with fail
      go_meet
      exact ⟨rfl, rfl, rfl⟩
  case rest =>
    obtain ⟨rfl, rfl, rfl⟩ := hcut
    have HI := Lib.hid (insert_left HM2.out (Below.drew (Below.refl _ _)) hp hq hblen (Bd.mono hB hbB.size) n)
    have hgf := HM2.out.gf p
    have lS := cell_lt hs02
    have lG := cell_lt hg0
    have nS := World.new_ne _ _ hs02
    have nG := World.new_ne _ _ hg0
    have hpl : (p : Int) < (bl.length : Int) := by omega
    obtain ⟨b, hb⟩ : ∃ b, b = bl.getD p noBlk := ⟨_, rfl⟩
    obtain ⟨m, hm⟩ : ∃ m, m = bl.length := ⟨_, rfl⟩
    have HBB := Lib.hid hb
    have HMM := Lib.hid hm
    rw [← hb] at HI hg0 hshort
    rw [← hm] at HI hs02 hpl few
    clear hb hm
    unfold Blk.val at hg0
    unfold Blk.val at HI
    have HI2 : Hid (Calls Try.prog 29 #[.slice (some ⟨b.g, 0, none⟩) b.xs.length b.cap, .int .i64 q, .slice (some ⟨wc.heap.size, 0, none⟩) 1 1] (wc.alloc (.cells #[.int .i64 n] 3)).drew
      fun e w' => ∃ b' : Blk, e = .returned (.slice (some ⟨b'.g, 0, none⟩) b'.xs.length b'.cap) ∧ w'.cell? ⟨S, 0, none⟩ = some (.slice (some ⟨G, 0, none⟩) m C) ∧
        w'.cell? ⟨G, p, none⟩ = some (.slice (some ⟨b.g, 0, none⟩) b.xs.length b.cap) ∧ w'.frozen? ⟨G, p, none⟩ = false ∧ InsLeft wc B S G C (cnt + 1) bl p q n b' w') := HI
    clear HI
    have HBI := Lib.hid hbB; clear hbB
    have HSH := Lib.hid hshort; clear hshort
    have HQ := Lib.hid hq
    clear hset hok h0 hB HF hq hmem few hblen hcnt hne0 HC HM2 HW2 hb1
    go_upto_region 8 with (fail)
    go_cut [] (fun wx => ∃ b' : Blk, Hid (AddLeft wc B S G C (cnt + 1) bl p q n b' wx) ∧ wx.cell? ⟨S, 0, none⟩ = some (.slice (some ⟨G, 0, none⟩) m C) ∧ wx.cell? ⟨G, p, none⟩ = some (.slice (some ⟨b'.g, 0, none⟩) b'.xs.length b'.cap))
    case first =>
      go_region_with (first | (go_at_call 29; refine HI2.out.mono ?_; rintro e w' ⟨b', rfl, c1, c2, c3, HL⟩))
      all_goals (go_wp2_with fail; go_meet)
      all_goals exact add_done HL hp HMM.out
    case rest =>
      obtain ⟨b', hleft, s0, g0⟩ := hcut
      have hl : b'.xs.length = 257 := by rw [hleft.out.2.1, ins_len _ _ _ HQ.out, HFULL.out]
      rw [hl] at g0
      have HSP := Lib.hid (split_any S B G C p (cnt + 1) (bl.set p b') _ hleft.out.1 (by rw [List.length_set]; exact hp) (by rw [List.length_set]; exact HFEW.out) (Bd.mono HB0.out (HBI.out.trans hleft.out.2.2).size) (by rw [set_getD hp]; exact hl))
      have HL2 := Lib.hid hl; clear hl
      have hpl2 : (p : Int) < (m : Int) := hpl
      go_wp2_with fail
      refine HSP.out.mono ?_
      rintro e w3 ⟨rfl, hb3, G', C', lo, hi, hm3, hlo, hhi⟩
      rw [List.set_set] at hm3
      rw [set_getD hp, hleft.out.2.1] at hlo hhi
      have HM3 := Lib.hid hm3; clear hm3
      have HLO := Lib.hid hlo; clear hlo
      have HHI := Lib.hid hhi; clear hhi
      have HB3 := Lib.hid hb3; clear hb3
      go_wp2
      go_end0
      refine ⟨rfl, ⟨lo, hi, HM3.out.is ?_, HLO.out, HHI.out⟩, (HBI.out.trans hleft.out.2.2).trans HB3.out⟩
      rw [HCN.out, ← flat_len, ← flat_len, flat_ins2 bl p hp lo hi, flat_split bl p hp]
      simp only [List.length_append]
      rw [HLO.out, HHI.out, List.length_take, List.length_drop, ins_len _ _ _ HQ.out, HFULL.out]
      omega
end Go.Proofs.Ytjpllcdjiagjlaa
