/-
  WHAT IS ASKED OF A SET: Len, Has, Ends.
-/
import Derived.Test.YtjpllcdjiagjlaaSetAll
namespace Go.Proofs.Ytjpllcdjiagjlaa
open Go.RowKit

theorem find_ok (S : Nat) (B : Nat → Prop) (n : Int) (l : List Int) (w : World) (h : SetOk w B S l) : ∃ x1 x2 : Nat,
    Calls Try.prog 20 #[.pointer (some ⟨S, 0, none⟩), .int .i64 n] w fun e w' => e = .returned (.tuple #[.int .i64 x1, .int .i64 x2, .bool (l.contains n)]) ∧ Below w.heap.size w w' := by
  obtain ⟨bl, hset, hg, rfl⟩ := h
  by_cases h0 : bl.length = 0
  · have : bl = [] := List.length_eq_zero_iff.1 h0
    subst this
    exact ⟨0, 0, find_none S B n w hset hg.ok⟩
  · have hf := find_some S B n bl w hset hg.ok (by omega)
    rw [in_iff hg n] at hf
    exact ⟨_, _, hf⟩

theorem len_any (S : Nat) (B : Nat → Prop) (l : List Int) (w : World) (h : SetOk w B S l) : Calls Try.prog 11 #[.pointer (some ⟨S, 0, none⟩)] w fun e w' => e = .returned (.int .i64 l.length) ∧ w = w' := by
  have hc := h.cells.1
  clear h
  obtain ⟨m, hm⟩ : ∃ m, m = l.length := ⟨_, rfl⟩
  rw [← hm] at hc ⊢
  clear hm
  go_enter Try.func11, Try.ntmps11
  go_wp2
  go_ret
  exact ⟨rfl, rfl⟩

theorem all_take (p : Int → Bool) (ks : List Int) (k : Nat) (h : k < ks.length) : (ks.take (k + 1)).all p = ((ks.take k).all p && p (ks.getD k 0)) := by
  rw [take_one ks k h, List.all_append]; simp
theorem all_false (p : Int → Bool) (ks : List Int) (k : Nat) (h : k < ks.length) (hp : p (ks.getD k 0) = false) : ks.all p = false := by
  rw [List.all_eq_false]
  refine ⟨ks.getD k 0, ?_, by rw [hp]; exact Bool.false_ne_true⟩
  rw [List.getD_eq_getElem?_getD, List.getElem?_eq_getElem h]; exact List.getElem_mem h

set_option maxHeartbeats 400000 in
theorem has_any (S : Nat) (B : Nat → Prop) (a : Option Addr) (ks : List Int) (cap : Nat) (l : List Int) (w : World) (hset : SetOk w B S l) (hk : ks.length ≤ 100000) (ha : IntsAt w a ks) :
    Calls Try.prog 12 #[.pointer (some ⟨S, 0, none⟩), .slice a ks.length cap] w fun e w' => e = .returned (.bool (ks.all (l.contains ·))) ∧ Below w.heap.size w w' := by
  have HA := Lib.hid ha; clear ha
  have HSet := Lib.hid hset; clear hset
  go_enter Try.func12, Try.ntmps12
  go_wp2
  go_loopw [12] (fun i wr => ∃ k : Nat, k ≤ ks.length ∧ i = .int .i64 k ∧ Hid ((ks.take k).all (l.contains ·) = true) ∧ Below w.heap.size w wr) (fun i _ => ks.length - (intOf i).toNat)
  case atStart => exact ⟨0, Nat.zero_le _, rfl, rfl, Below.refl _ _⟩
  case round =>
    obtain ⟨k, hk2, rfl, hall, hbr⟩ := hrel
    have HBR := Lib.hid hbr
    by_cases hlt : k < ks.length
    · obtain ⟨b, off, rfl, hck⟩ := (HA.out.below hbr).cell hlt
      have HT := Lib.hid (all_take (l.contains ·) ks k hlt)
      have HZ := Lib.hid (all_false (l.contains ·) ks k hlt)
      obtain ⟨c, hcc⟩ : ∃ c, c = ks.getD k 0 := ⟨_, rfl⟩
      rw [← hcc] at HT HZ hck
      obtain ⟨x1, x2, hC⟩ := find_ok S B c l wr (HSet.out.below hbr)
      have HC := Lib.hid hC
      clear hC hcc hbr
      cases hin : l.contains c
      · rw [hin] at HC
        go_wp2_with fail
        refine HC.out.mono ?_
        rintro e w2 ⟨rfl, hb2⟩
        have HB2 := Lib.hid hb2; clear hb2
        go_wp2
        go_ret
        exact ⟨by rw [HZ.out hin]; rfl, HBR.out.trans (HB2.out.mono HBR.out.size)⟩
      · rw [hin] at HC
        go_wp2_with fail
        refine HC.out.mono ?_
        rintro e w2 ⟨rfl, hb2⟩
        have HB2 := Lib.hid hb2; clear hb2
        go_wp2
        go_roundw
        case rel => exact ⟨k + 1, by omega, by go_num, by rw [Hid, HT.out, hall.out]; exact hin, HBR.out.trans (HB2.out.mono HBR.out.size)⟩
        case measure => simp [intOf]; omega
    · have hfull : ks.all (l.contains ·) = true := by
        have := hall.out
        rw [List.take_of_length_le (by omega)] at this
        exact this
      have HFU := Lib.hid hfull; clear hfull
      clear hbr
      go_wp2
      go_ret
      exact ⟨by rw [HFU.out]; rfl, HBR.out⟩

theorem getD_app_last (A B : List Int) (h : 0 < B.length) : (A ++ B).getD ((A ++ B).length - 1) 0 = B.getD (B.length - 1) 0 := by
  simp only [List.getD_eq_getElem?_getD, List.length_append]
  rw [List.getElem?_append_right (by omega)]
  congr 2
  omega
theorem getD_app_first (A B : List Int) (h : 0 < A.length) : (A ++ B).getD 0 0 = A.getD 0 0 := by
  simp only [List.getD_eq_getElem?_getD]
  rw [List.getElem?_append_left h]
theorem ints_get (l : List Int) (i : Nat) (h : i < l.length) : (ints l)[i]? = some (.int .i64 (l.getD i 0)) := by
  unfold ints
  rw [List.getElem?_map, List.getD_eq_getElem?_getD, List.getElem?_eq_getElem h]
  rfl
theorem flat_first (bl : List Blk) (hg : Good bl) (h0 : 0 < bl.length) : (bl.getD 0 noBlk).xs.getD 0 0 = (flat bl).getD 0 0 := by
  have hn := (hg.ne _ (getD_mem h0)).1
  rw [flat_split bl 0 h0, List.take_zero, show flat [] = [] from rfl, List.nil_append, getD_app_first _ _ hn]
theorem flat_last (bl : List Blk) (hg : Good bl) (h0 : 0 < bl.length) : (bl.getD (bl.length - 1) noBlk).last = (flat bl).getD ((flat bl).length - 1) 0 := by
  have hn := (hg.ne _ (getD_mem (show bl.length - 1 < bl.length by omega))).1
  have hd : flat (bl.drop (bl.length - 1 + 1)) = [] := by rw [List.drop_of_length_le (by omega)]; rfl
  rw [flat_split bl (bl.length - 1) (by omega), hd, List.append_nil, getD_app_last _ _ hn]
  rfl

theorem ends_none (S : Nat) (B : Nat → Prop) (w : World) (h : SetOk w B S []) : Calls Try.prog 8 #[.pointer (some ⟨S, 0, none⟩)] w fun e w' => e = .returned (.tuple #[.int .i64 0, .int .i64 0, .bool false]) ∧ Below w.heap.size w w' := by
  have HL := Lib.hid (len_any S B [] w h)
  clear h
  go_enter Try.func8, Try.ntmps8
  go_wp2_with fail
  refine HL.out.mono ?_
  rintro e w1 ⟨rfl, rfl⟩
  go_wp2
  go_ret3
  exact ⟨rfl, Below.refl _ _⟩

set_option maxHeartbeats 400000 in
theorem ends_some (S : Nat) (B : Nat → Prop) (l : List Int) (w : World) (h : SetOk w B S l) (h0 : 0 < l.length) :
    Calls Try.prog 8 #[.pointer (some ⟨S, 0, none⟩)] w fun e w' => e = .returned (.tuple #[.int .i64 (l.getD 0 0), .int .i64 (l.getD (l.length - 1) 0), .bool true]) ∧ Below w.heap.size w w' := by
  have HL := Lib.hid (len_any S B l w h)
  obtain ⟨bl, hset, hg, rfl⟩ := h
  have hb0 : 0 < bl.length := by
    rcases bl with _ | ⟨b, t⟩
    · simp [flat] at h0
    · simp
  have few := hg.lens
  obtain ⟨G, C, hm⟩ := hset.mid hb0
  have hs0 := hm.s0
  have c0 := hm.g0 0 hb0
  have c1 := hm.g0 (bl.length - 1) (by omega)
  have n0 := (hg.ne _ (getD_mem hb0))
  have n00 := n0.1
  have r0 := (hm.rows _ (getD_mem hb0)).cellAt 0 (by omega)
  have hz := getD_mem (bl := bl) (i := bl.length - 1) (by omega)
  have nz := hg.ne _ hz
  have HLA := Lib.hid fun W (hW : Below w.heap.size w W) => last_any (bl.getD (bl.length - 1) noBlk) W (B := 0) (owns_below (hm.rows _ hz) hW) nz.1 (by unfold maxLen; omega)
  rw [ints_get _ 0 n00, flat_first bl hg hb0] at r0
  clear n00
  have hla := flat_last bl hg hb0
  unfold Blk.last at hla
  rw [hla] at HLA
  unfold Blk.val at c0 c1 HLA
  obtain ⟨x, hx⟩ : ∃ x, x = (flat bl).getD 0 0 := ⟨_, rfl⟩
  obtain ⟨y, hy⟩ : ∃ y, y = (flat bl).getD ((flat bl).length - 1) 0 := ⟨_, rfl⟩
  rw [← hx] at r0 ⊢
  rw [← hy] at HLA ⊢
  obtain ⟨N, hN⟩ : ∃ N, N = (flat bl).length := ⟨_, rfl⟩
  rw [← hN] at HL h0
  have hN2 : ((N : Int) == 0) = false := by rw [beq_eq_false_iff_ne]; omega
  obtain ⟨m, hmm⟩ : ∃ m, m = bl.length := ⟨_, rfl⟩
  rw [← hmm] at hs0 c1 HLA few hb0
  obtain ⟨b, hb⟩ : ∃ b, b = bl.getD 0 noBlk := ⟨_, rfl⟩
  obtain ⟨d, hd⟩ : ∃ d, d = bl.getD (m - 1) noBlk := ⟨_, rfl⟩
  rw [← hb] at c0 r0 n0
  rw [← hd] at c1 HLA
  have n01 := n0.1
  have hm0 : (0 : Int) < (m : Int) := by omega
  have hb01 : (0 : Int) < (b.xs.length : Int) := by omega
  have hmz : 0 ≤ (m : Int) - 1 := by omega
  have hmt : ((m : Int) - 1).toNat = m - 1 := by omega
  have hml : (m : Int) - 1 < (m : Int) := by omega
  clear hset hg hm n0 nz hz hla hx hy hN hmm hb hd
  go_enter Try.func8, Try.ntmps8
  go_wp2_with fail
  refine HL.out.mono ?_
  rintro e w1 ⟨rfl, rfl⟩
  go_wp2_with fail
  have HLB := Lib.hid fun q => HLA.out (w.drewN q) (below_drewN (Below.refl _ _) q)
  go_quiet ((go_at_call 18; exact Calls.quiet_of_same ((HLB.out _).mono fun e w' h => ⟨h.1, h.2.symm⟩)))
  go_wp2
  go_ret3
  exact ⟨rfl, below_drewN (Below.refl _ _) _⟩
end Go.Proofs.Ytjpllcdjiagjlaa
