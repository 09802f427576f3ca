/-
  (*Set).From.
-/
import Derived.Test.YtjpllcdjiagjlaaSetAsk
namespace Go.Proofs.Ytjpllcdjiagjlaa
open Go.RowKit

def fromS (l : List Int) (n : Int) : List Int := l.filter (fun x => decide (n ≤ x))
theorem from_flat {bl : List Blk} (h : Good bl) (n : Int) (hp : findB bl n < bl.length) : fromS (flat bl) n = (bl.getD (findB bl n) noBlk).xs.drop (findAt bl n) ++ flat (bl.drop (findB bl n + 1)) ∧ findAt bl n < (bl.getD (findB bl n) noBlk).xs.length := by
  have hxs := (h.parts hp).1
  have hA := take_below h n (p := findB bl n) (Nat.le_refl _)
  have hD := drop_above h n hp (Nat.le_refl _)
  have hl := (find_parts h n).2 _ (Nat.le_refl _) hp
  refine ⟨?_, ?_⟩
  · conv => lhs; rw [flat_split bl (findB bl n) hp]
    unfold fromS findAt
    rw [List.filter_append, List.filter_append, (take_count _ n hxs).2]
    rw [filter_none (l := flat (bl.take (findB bl n))) (fun x hx => by have := hA x hx; simp; omega), filter_all (l := flat (bl.drop (findB bl n + 1))) (fun x hx => by have := hD x hx; simp; omega), List.nil_append]
    congr 1
    apply List.filter_congr
    intro x _
    by_cases hx : x < n
    · simp [hx]
    · simp [hx]; omega
  · unfold findAt
    rcases Nat.lt_or_ge ((bl.getD (findB bl n) noBlk).xs.countP (· < n)) (bl.getD (findB bl n) noBlk).xs.length with hlt | hge
    · exact hlt
    · have hall := List.countP_eq_length.1 (Nat.le_antisymm List.countP_le_length hge)
      have := hall _ (last_mem _ (h.ne _ (getD_mem hp)).1)
      rw [decide_eq_true_iff] at this
      omega
theorem from_none {bl : List Blk} (h : Good bl) (n : Int) (hp : findB bl n = bl.length) : fromS (flat bl) n = [] := by
  have hA := take_below h n (p := bl.length) (by omega)
  rw [List.take_length] at hA
  exact filter_none (fun x hx => by have := hA x hx; simp; omega)
theorem flat_pre (D : List Blk) (k : Nat) : (flat (D.take k)).length ≤ (flat D).length := by
  conv => rhs; rw [← List.take_append_drop k D, flat_app, List.length_append]
  omega
theorem drop_getD (bl : List Blk) (f k : Nat) : (bl.drop f).getD k noBlk = bl.getD (f + k) noBlk := by
  rw [List.getD_eq_getElem?_getD, List.getD_eq_getElem?_getD, List.getElem?_drop]

set_option maxHeartbeats 1000000 in
theorem from_any (S : Nat) (B : Nat → Prop) (n : Int) (l : List Int) (w : World) (h : SetOk w B S l) (hne : l ≠ []) :
    Calls Try.prog 13 #[.pointer (some ⟨S, 0, none⟩), .int .i64 n] w (ListPost w (fromS l n)) := by
  obtain ⟨bl, hset, hg, rfl⟩ := h
  have h0 : 0 < bl.length := by
    rcases bl with _ | ⟨b, t⟩
    · exact absurd rfl hne
    · simp
  have hf := find_some S B n bl w hset hg.ok h0
  have few := hg.lens
  have hfl := hg.few
  have hle := findB_le bl n
  by_cases hp : findB bl n < bl.length
  · obtain ⟨he, hat⟩ := from_flat hg n hp
    rw [if_pos hp] at hf
    rw [he]
    have hfs := flat_split bl (findB bl n) hp
    have hnb := (hg.ne _ (getD_mem hp)).2
    obtain ⟨i0, hi, hz0, hz1, hz2⟩ := info_parts infoI
    obtain ⟨G, C, hm⟩ := hset.mid h0
    have hCm : bl.length ≤ C := by obtain ⟨_, _, _, h, _⟩ := own_block hm.blocks; exact h
    obtain ⟨fnd, hfnd⟩ : ∃ x, x = (decide (findB bl n < bl.length) && findIn bl n) := ⟨_, rfl⟩
    rw [← hfnd] at hf
    obtain ⟨f, hff⟩ : ∃ f, f = findB bl n := ⟨_, rfl⟩
    obtain ⟨q, hqq⟩ : ∃ q, q = findAt bl n := ⟨_, rfl⟩
    rw [← hff] at hf hp hfs hnb hat ⊢
    rw [← hqq] at hf hat ⊢
    clear hff hqq hfnd he hset hle
    have hmem := getD_mem hp
    have HM := Lib.hid hm; clear hm
    have HF := Lib.hid hf; clear hf
    have HP := Lib.hid hp
    have hlen0 : ∀ k, ((bl.getD f noBlk).xs.drop q ++ flat ((bl.drop (f + 1)).take k)).length ≤ 100000 := fun k => by
      have h1 := flat_pre (bl.drop (f + 1)) k
      have h2 : (flat bl).length = (flat (bl.take f)).length + (bl.getD f noBlk).xs.length + (flat (bl.drop (f + 1))).length := by
        conv => lhs; rw [hfs]
        simp only [List.length_append]
      rw [List.length_append, List.length_drop]
      omega
    have HLEN := Lib.hid hlen0
    clear hfs hlen0
    have HG := Lib.hid hg; clear hg
    have hbc : (bl.getD f noBlk).xs.length ≤ (bl.getD f noBlk).cap := by
      obtain ⟨_, _, _, h, _⟩ := own_block (HM.out.rows _ hmem)
      exact h
    have hcq : ¬ ((bl.getD f noBlk).cap = q) := by omega
    have hqi : (q : Int) ≤ ((bl.getD f noBlk).xs.length : Int) := by omega
    have hfi : (f : Int) < (bl.length : Int) := by omega
    have hfe : ((f : Int) == (bl.length : Int)) = false := by rw [beq_eq_false_iff_ne]; omega
    have hf0 : (0 : Int) ≤ (f : Int) + 1 := by omega
    have hf1 : (f : Int) + 1 ≤ (bl.length : Int) := by omega
    have hft : ((f : Int) + 1).toNat = f + 1 := by omega
    have HCl0 := Lib.hid fun W (hW : Below w.heap.size w W) => clone_row (bl.getD f noBlk) W (B := 0) (owns_below (HM.out.rows _ hmem) hW) q hat (by omega)
    obtain ⟨bz, hbz⟩ : ∃ bz, bz = bl.getD f noBlk := ⟨_, rfl⟩
    have HBZ := Lib.hid hbz
    rw [← hbz] at HLEN hbc hcq hqi HCl0 hat ⊢
    obtain ⟨N, hN⟩ : ∃ N, N = bz.xs.length := ⟨_, rfl⟩
    have HN := Lib.hid hN
    rw [← hN] at hbc hqi HCl0 hat
    clear hbz hN hnb hmem
    go_enter Try.func13, Try.ntmps13
    go_wp2_with fail
    refine HF.out.mono ?_
    rintro e w1 ⟨rfl, hb1⟩
    have hm1 := HM.out.below hb1
    have hs1 := hm1.s0
    have hg1 := hm1.g0 f HP.out
    unfold Blk.val at hg1
    rw [← HBZ.out, ← HN.out] at hg1
    have HM1 := Lib.hid hm1; clear hm1
    have HB1 := Lib.hid hb1
    have HC1 := Lib.hid (HCl0.out w1 hb1)
    clear hb1
    go_wp2_with fail
    refine HC1.out.mono ?_
    rintro e w2 ⟨c, rfl, hcx, hcg, hcl, hrow, hb2⟩
    have hs2 : w2.cell? ⟨S, 0, none⟩ = some (.slice (some ⟨G, 0, none⟩) bl.length C) := (HM1.out.below hb2).s0
    have HM2 := Lib.hid (HM1.out.below hb2)
    have HB2 := Lib.hid (HB1.out.trans (hb2.mono HB1.out.size))
    have hcl2 : c.xs.length = N - q := by rw [hcx, List.length_drop, HN.out]
    have hr2 := own_mono hrow HB1.out.size
    unfold Blk.val at hr2
    rw [hcl2, hcx] at hr2
    have HR2 := Lib.hid hr2
    clear hr2 hcx hcg hcl hrow hb2 hcl2 hs1 hg1 HM1 HC1 HCl0
    by_cases hC : C = f + 1
    · subst hC
      have hmf : bl.length = f + 1 := by omega
      have hd : flat (bl.drop (f + 1)) = [] := by rw [List.drop_of_length_le (by omega)]; rfl
      have HD := Lib.hid hd; clear hd
      have hzz : bl.length - (f + 1) = 0 := by omega
      go_wp2
      go_loopw [8, 45] (fun v i wr => i = .int .i64 0 ∧ v = .slice (some ⟨c.g, 0, none⟩) (N - q) c.cap ∧ wr = w2) (fun _ _ _ => 0)
      case atStart => exact ⟨rfl, rfl, rfl⟩
      case round =>
        obtain ⟨rfl, rfl, rfl⟩ := hrel
        go_wp2
        go_ret
        refine ⟨_, rfl, ?_, HB2.out⟩
        rw [HD.out, List.append_nil, List.length_drop, ← HN.out]
        exact HR2.out
    · go_wp2
      go_loopw [8, 45] (fun v i wr => ∃ k : Nat, k ≤ bl.length - (f + 1) ∧ i = .int .i64 k ∧ wr.ownsRow w.heap.size 3 1 v (bz.xs.drop q ++ flat ((bl.drop (f + 1)).take k)).length (ints (bz.xs.drop q ++ flat ((bl.drop (f + 1)).take k))) ∧ Below w.heap.size w wr) (fun _ i _ => bl.length - (f + 1) - (intOf i).toNat)
      case atStart =>
        refine ⟨0, Nat.zero_le _, rfl, ?_, HB2.out⟩
        rw [List.take_zero, show flat [] = [] from rfl, List.append_nil, List.length_drop, ← HN.out]
        exact HR2.out
      case round =>
        obtain ⟨k2, hk2, rfl, hown, hbr⟩ := hrel
        have hsz := hbr.size
        have hpk2 := HLEN.out k2
        by_cases hlt2 : k2 < bl.length - (f + 1)
        · have hfk : f + 1 + k2 < bl.length := by omega
          have hg0 := (HM.out.below hbr).g0 (f + 1 + k2) hfk
          have hft2 := flat_take (bl.drop (f + 1)) k2 (by rw [List.length_drop]; exact hlt2)
          rw [drop_getD] at hft2
          have hmem2 := getD_mem hfk
          have hbl := (HG.out.ne _ hmem2).2
          have hpk3 := HLEN.out (k2 + 1)
          have hrow := (HM.out.below hbr).rows _ hmem2
          obtain ⟨b, hb⟩ : ∃ b, b = bl.getD (f + 1 + k2) noBlk := ⟨_, rfl⟩
          obtain ⟨F, hF⟩ : ∃ F, F = bz.xs.drop q ++ flat ((bl.drop (f + 1)).take k2) := ⟨_, rfl⟩
          rw [← hb] at hg0 hft2 hbl hrow
          have hft3 : bz.xs.drop q ++ flat ((bl.drop (f + 1)).take (k2 + 1)) = F ++ b.xs := by rw [hft2, hF, List.append_assoc]
          rw [← hF] at hpk2 hown
          rw [hft3] at hpk3
          rw [List.length_append] at hpk3
          have HFT := Lib.hid hft3; clear hft3 hft2
          have HRW := Lib.hid hrow; clear hrow
          clear hb hF hmem2
          unfold Blk.val at hg0
          have hki : (k2 : Int) < ((bl.length - (f + 1) : Nat) : Int) := by omega
          go_wp2_with (at_builtin; refine wpList_append_own _ rfl _ _ 22 rfl w.heap.size 3 i0 (.int .i64 0) 1 8 Try.underlying22 hi hz0 hz1 hz2 rfl (by decide) _ _ _ rfl hown ⟨b.g, 0, none⟩ b.xs.length b.cap (ints b.xs) rfl ?c0 ?c1 ?c2 ?c3 ?c4 ?c5 ?_)
          case c0 => simp [ints]
          case c1 => exact owns_cells HRW.out
          case c2 => exact one_cell _
          case c3 => unfold maxLen; omega
          case c4 => omega
          case c5 => exact hsz
          · intro v' w2 hown' hgrow _
            have hbn : Below w.heap.size w w2 := hbr.grown hgrow hsz (fun k hk => (hown.lt k hk).1)
            rw [ints_append] at hown'
            have hl : F.length + b.xs.length = (F ++ b.xs).length := by rw [List.length_append]
            rw [hl, ← HFT.out] at hown'
            clear hgrow hown hl
            have HON := Lib.hid hown'; clear hown'
            go_wp2
            go_roundw
            case rel => exact ⟨k2 + 1, by omega, by go_num, HON.out, hbn⟩
            case measure => simp [intOf]; omega
        · have hfe2 : (bl.drop (f + 1)).take k2 = bl.drop (f + 1) := List.take_of_length_le (by rw [List.length_drop]; omega)
          rw [hfe2] at hown
          have HON := Lib.hid hown; clear hown hfe2
          have hki : ((bl.length - (f + 1) : Nat) : Int) ≤ (k2 : Int) := by omega
          go_wp2
          go_ret
          exact ⟨_, rfl, HON.out, hbr⟩
  · have he := from_none hg n (by omega)
    rw [if_neg hp, show (decide (findB bl n < bl.length) && findIn bl n) = false from by simp [hp]] at hf
    rw [he]
    obtain ⟨G, C, hm⟩ := hset.mid h0
    have hfm : findB bl n = bl.length := by omega
    rw [hfm] at hf
    have HM := Lib.hid hm; clear hm
    have HF := Lib.hid hf; clear hf
    clear hset hg hp hfm he hle
    have hee : ((bl.length : Int) == (bl.length : Int)) = true := by simp
    go_enter Try.func13, Try.ntmps13
    go_wp2_with fail
    refine HF.out.mono ?_
    rintro e w1 ⟨rfl, hb1⟩
    have hs1 := (HM.out.below hb1).s0
    go_wp2
    go_ret
    exact ⟨_, rfl, World.ownsRow_nil _ _ _ _, hb1⟩
end Go.Proofs.Ytjpllcdjiagjlaa
