/-
  THE WALK OF quadrigalaw03.FrameBack: it returns true, and writes nothing that was there.
-/
import Derived.Test.YtpfgdmjgeelobaaDoorFrChainsLaw
import Derived.Test.YtpfgdmjgeelobaaDoorFrBackPure
import Derived.Test.YtpfgdmjgeelobaaDoorSumBurst
namespace Go.Proofs.YtpfgdmjgeelobaaDoor
open Go.RowKit Crc

theorem frs_of_own' {w : World} {B : Nat} {T : TypeId} {v : Value} {l : List Fr} (h : w.ownsRow B T 4 v l.length (flat l)) (h0 : l ≠ []) : ∃ b c, v = .slice (some ⟨b, 0, none⟩) l.length c ∧ FrsAt w (some ⟨b, 0, none⟩) l ∧ l.length ≤ c := by
  have h' := h
  rcases h.2 with ⟨_, hz⟩ | ⟨g, c, cur, hv, _, _, hn, _⟩
  · exact absurd (List.length_eq_zero_iff.1 hz) h0
  · obtain ⟨a, c', hv', hf⟩ := frs_of_own h'
    subst hv
    injection hv' with h1 h2 h3
    subst h1
    exact ⟨g, c, rfl, hf, hn⟩
theorem FrsAt.take {w : World} {a : Option Addr} {l : List Fr} (h : FrsAt w a l) (j : Nat) : FrsAt w a (l.take j) := by
  rcases h with h | ⟨b, off, e, h⟩
  · exact .inl (by rw [h]; simp)
  · refine .inr ⟨b, off, e, fun i hi => ?_⟩
    rw [List.length_take] at hi
    have hg : (l.take j).getD i noFr = l.getD i noFr := by
      rw [List.getD_eq_getElem?_getD, List.getD_eq_getElem?_getD, List.getElem?_take, if_pos (by omega)]
    rw [hg]
    exact h i (by omega)
theorem told_j (a : Option Addr) (l : List Fr) (j cap : Nat) (w : World) (hj : l.length = j) (hl : j ≤ 1000) (ha : FrsAt w a l) :
    Calls Tryd.prog 18 #[.slice a j cap] w fun x w' => ∃ a' c', x = .returned (.slice a' j c') ∧ FrsAt w' a' l ∧ Below w.heap.size w w' := by
  subst hj
  refine (told_any a l cap w hl ha).mono ?_
  rintro x w' ⟨v, rfl, ho, hb⟩
  obtain ⟨a', c', rfl, hf⟩ := frs_of_own ho
  exact ⟨a', c', rfl, hf, hb⟩
theorem same_j (a b : Option Addr) (l : List Fr) (j ca cb : Nat) (w : World) (hj : l.length = j) (hl : j ≤ 1000) (ha : FrsAt w a l) (hb : FrsAt w b l) :
    Calls Tryd.prog 17 #[.slice a j ca, .slice b j cb] w fun x w' => x = .returned (.bool true) ∧ Below w.heap.size w w' := by
  subst hj
  exact same_any a b l ca cb w hl ha hb
theorem zero_not : frOk ⟨#[0]⟩ = false := short_not _ (by show 1 < _; omega)

set_option maxRecDepth 100000 in
set_option maxHeartbeats 4000000 in
theorem frameBack_walk (ep at_ kk : Int) (sa : Option Addr) (ds : List ByteArray) (cap : Nat) (w : World) (hn : ds.length ≤ maxLen) (hsa : StrsAt w sa ds) (ht : Tab w) :
    Calls Tryd.prog 7 #[.int .i64 ep, .int .i64 at_, .slice sa ds.length cap, .int .i64 kk] w fun x w' => x = .returned (.bool true) ∧ Below w.heap.size w w' := by
  have HT := Lib.hid ht; clear ht
  have HA := Lib.hid hsa; clear hsa
  unfold maxLen at hn
  have KA := Lib.hid (fun W (hW : Below w.heap.size w W) => (awake_fr W (HT.out.below hW)).mono fun e w' h => (⟨h.1, hW.trans (h.2.mono hW.size)⟩ : e = .returned (.bool true) ∧ Below w.heap.size w w'))
  by_cases hgood : ds.length ≠ 0 ∧ ds.length ≤ 30 ∧ 0 ≤ at_ ∧ at_ ≤ 1099511627776 ∧ 0 ≤ ep ∧ ep ≤ 1073741824
  · obtain ⟨g1, g2, g3, g4, g5, g6⟩ := hgood
    have g1' : (((ds.length : Int)) == 0) = false := by rw [beq_eq_false_iff_ne]; omega
    have g2' : (ds.length : Int) ≤ 30 := by omega
    go_enter Tryd.func7, Tryd.ntmps7
    go_wp2
    go_loopw [9, 10] (fun sv i wr => ∃ k : Nat, k ≤ ds.length ∧ i = .int .i64 k ∧ sv = .string (strm ep at_ 0 (ds.take k)) ∧ Hid (∀ d ∈ ds.take k, d.size ≤ 200) ∧ Below w.heap.size w wr) (fun _ i _ => ds.length - (intOf i).toNat)
    case atStart => exact ⟨0, Nat.zero_le _, rfl, rfl, (fun d hd => by simp at hd), Below.refl _ _⟩
    case round =>
      obtain ⟨k, hk', rfl, rfl, hall, hbr⟩ := hrel
      have hSl := strm_le ep (ds.take k) at_ 0 hall.out
      have hlt30 : (ds.take k).length = k := by rw [List.length_take]; omega
      rw [hlt30] at hSl
      by_cases hlt : k < ds.length
      · obtain ⟨b, off, rfl, hcc⟩ : ∃ b off, sa = some ⟨b, off, none⟩ ∧ ∀ i, i < ds.length → w.cell? ⟨b, off + i, none⟩ = some (.string (ds.getD i ByteArray.empty)) := by
          rcases HA.out with h | h
          · rw [h] at hlt; simp at hlt
          · exact h
        have hck := keep_cell hbr (hcc k hlt)
        clear hcc
        have htk : ds.take (k + 1) = ds.take k ++ [ds.getD k ByteArray.empty] := by
          rw [List.take_succ_eq_append_getElem hlt]; simp [List.getD_eq_getElem?_getD, hlt]
        have hsn := strm_snoc ep (ds.take k) at_ 0 (ds.getD k ByteArray.empty)
        rw [← htk, hlt30, Int.zero_add] at hsn
        obtain ⟨d, hd⟩ : ∃ d, d = ds.getD k ByteArray.empty := ⟨_, rfl⟩
        rw [← hd] at hck hsn htk
        clear hd
        by_cases hsz : 200 < d.size
        · have hsz' : (200 : Int) < (d.size : Int) := by omega
          clear hsn htk
          generalize strm ep at_ 0 (ds.take k) = S at *
          go_wp2_with fail
          refine (KA.out _ hbr).mono ?_
          rintro x w1 ⟨rfl, hb1⟩
          go_wp2
          go_ret
          exact ⟨rfl, hb1⟩
        · have hsz' : (d.size : Int) ≤ 200 := by omega
          have hall2 : Hid (∀ x ∈ ds.take (k + 1), x.size ≤ 200) := fun x hx => by
            rw [htk] at hx
            rcases List.mem_append.1 hx with h | h
            · exact hall.out x h
            · simp at h; subst h; omega
          have hr : frRight ep (at_ + ((strm ep at_ 0 (ds.take k)).size : Int)) (3 * (k : Int)) d.size = true := frRight_of ⟨by omega, by omega, by omega, by omega⟩
          have KM := make_alone ep (at_ + ((strm ep at_ 0 (ds.take k)).size : Int)) (3 * (k : Int)) d wr (WalkArith.wf_i64 (by omega)) (WalkArith.wf_i64 (by omega)) (WalkArith.wf_i64 (by omega)) (by omega) (HT.out.below hbr)
          have hM : makeStr ep (at_ + ((strm ep at_ 0 (ds.take k)).size : Int)) (3 * (k : Int)) d = frStr ep (at_ + ((strm ep at_ 0 (ds.take k)).size : Int)) (3 * (k : Int)) d := by unfold makeStr; rw [if_pos hr]
          have hMs := frStr_size ep (at_ + ((strm ep at_ 0 (ds.take k)).size : Int)) (3 * (k : Int)) d
          rw [hM] at KM
          have HSN := Lib.hid hsn
          have KM := Lib.hid KM
          clear hsn htk hr hM hall
          obtain ⟨M, hMM⟩ : ∃ M, M = frStr ep (at_ + ((strm ep at_ 0 (ds.take k)).size : Int)) (3 * (k : Int)) d := ⟨_, rfl⟩
          rw [← hMM] at KM HSN hMs
          clear hMM
          obtain ⟨S, hS⟩ : ∃ S, S = strm ep at_ 0 (ds.take k) := ⟨_, rfl⟩
          rw [← hS] at KM HSN hSl ⊢
          clear hS
          have hcat : ¬ 9223372036854775807 < S.size + M.size := by omega
          have hS2 : S.size ≤ 10000 := by omega
          go_wp2_with fail
          refine KM.out.mono ?_
          rintro x w1 ⟨rfl, hb1⟩
          have hbw1 := bw_call hb1 hbr
          go_wp2
          go_roundw
          case rel => exact ⟨k + 1, by omega, by go_num, by rw [HSN.out], hall2.out, hbw1⟩
          case measure => simp [intOf]; omega
      · rename World => wa
        have hbra := hbr
        clear hbr
        obtain rfl : k = ds.length := by omega
        have hfull : ds.take ds.length = ds := List.take_of_length_le (by omega)
        rw [hfull] at hall hSl ⊢
        clear hfull hlt30
        have hne : ds ≠ [] := fun e => by rw [e] at g1; exact g1 rfl
        have hpos := strm_pos ep at_ 0 ds hne
        obtain ⟨p, ep1, hp⟩ := turn_place kk 1000 (by omega)
        obtain ⟨c, ec, hc⟩ := turn_place kk ((strm ep at_ 0 ds).size : Int) (by omega)
        have hX : (strm ep at_ 0 ds ++ (⟨#[0]⟩ : ByteArray)).size = (strm ep at_ 0 ds).size + 1 := by rw [ByteArray.size_append]; rfl
        have hch := chain_strm ep (at_ + (p : Int)) ⟨#[0]⟩ zero_not (by omega) ds at_ 0 (-1) ((strm ep at_ 0 ds ++ (⟨#[0]⟩ : ByteArray)).size + 1) hall.out g3 (by omega) (by omega) (by omega) (by omega) (by omega)
        have hcx : ((strm ep at_ 0 ds).extract 0 c).size = c := by rw [ByteArray.size_extract]; omega
        obtain ⟨j, hj, hj1, hj2⟩ := chain_cut ep (at_ + (p : Int)) (by omega) ds at_ 0 (-1) (c + 1) c hall.out g3 (by omega) (by omega) (by omega) (by omega) (by omega) (by omega)
        have KC := fun W (hW : Below w.heap.size w W) => chain_any ep (at_ + (p : Int)) at_ (-1) (strm ep at_ 0 ds ++ (⟨#[0]⟩ : ByteArray)) W (by omega) (by omega) (HT.out.below hW)
        have KD := fun W (hW : Below w.heap.size w W) => chain_any ep (at_ + (p : Int)) at_ (-1) ((strm ep at_ 0 ds).extract 0 c) W (by omega) (by omega) (HT.out.below hW)
        rw [hch] at KC
        rw [hcx] at KD
        obtain ⟨e2, he2⟩ : ∃ e2, e2 = (chain ep (at_ + (p : Int)) (c + 1) ((strm ep at_ 0 ds).extract 0 c) at_ (-1)).2 := ⟨_, rfl⟩
        have KD' : ∀ W, Below w.heap.size w W → Calls Tryd.prog 15 #[.agg #[.int .i64 ep, .int .i64 (at_ + (p : Int))], .string ((strm ep at_ 0 ds).extract 0 c), .int .i64 at_, .int .i64 (-1)] W
            fun x w' => ∃ a' c', x = .returned (.tuple #[.slice a' j c', .int .i64 e2]) ∧ FrsAt w' a' ((frs ep at_ 0 ds).take j) ∧ Below W.heap.size W w' := fun W hW => by
          refine (KD W hW).mono ?_
          rintro x w' ⟨v, rfl, ho, hb⟩
          obtain ⟨a', c', rfl, hf⟩ := frs_of_own ho
          rw [hj1] at hf
          have hjl : (chain ep (at_ + (p : Int)) (c + 1) ((strm ep at_ 0 ds).extract 0 c) at_ (-1)).1.length = j := by rw [hj1, List.length_take, frs_len]; omega
          exact ⟨a', c', by rw [hjl, he2], hf, hb⟩
        have KC' : ∀ W, Below w.heap.size w W → Calls Tryd.prog 15 #[.agg #[.int .i64 ep, .int .i64 (at_ + (p : Int))], .string (strm ep at_ 0 ds ++ (⟨#[0]⟩ : ByteArray)), .int .i64 at_, .int .i64 (-1)] W
            fun x w' => ∃ b' c', x = .returned (.tuple #[.slice (some ⟨b', 0, none⟩) ds.length c', .int .i64 (at_ + ((strm ep at_ 0 ds).size : Int))]) ∧ FrsAt w' (some ⟨b', 0, none⟩) (frs ep at_ 0 ds) ∧ ds.length ≤ c' ∧ Below W.heap.size W w' := fun W hW => by
          refine (KC W hW).mono ?_
          rintro x w' ⟨v, rfl, ho, hb⟩
          obtain ⟨b', c', rfl, hf, hcl⟩ := frs_of_own' ho (fun e => by have h9 : (frs ep at_ 0 ds).length = ds.length := frs_len ep ds at_ 0; rw [show frs ep at_ 0 ds = [] from e] at h9; exact g1 h9.symm)
          have hl : (frs ep at_ 0 ds).length = ds.length := frs_len ep ds at_ 0
          exact ⟨b', c', by rw [← hl], hf, by rw [← hl]; exact hcl, hb⟩
        have he3 : e2 ≤ at_ + (c : Int) := by rw [he2]; exact hj2
        have hLj : ((frs ep at_ 0 ds).take j).length = j := by rw [List.length_take, frs_len]; omega
        have HG := Lib.hid (fun i (hi : i < ds.length) => frs_get ep ds at_ 0 i hi)
        have HL := Lib.hid (frs_len ep ds at_ 0)
        have hS2 : (strm ep at_ 0 ds).size ≤ 10000 := by omega
        have KC := Lib.hid KC'
        have KD := Lib.hid KD'
        clear KC' KD' hch hj1 hj2 he2 hcx hX hall
        obtain ⟨S, hS⟩ : ∃ S, S = strm ep at_ 0 ds := ⟨_, rfl⟩
        rw [← hS] at KC KD hc ec hpos hSl hS2 ⊢
        clear hS
        obtain ⟨L, hL⟩ : ∃ L, L = frs ep at_ 0 ds := ⟨_, rfl⟩
        rw [← hL] at KC KD HG HL hLj
        clear hL
        have hcat : ¬ 9223372036854775807 < S.size + 1 := by omega
        have hposz : (((S.size : Int)) == 0) = false := by rw [beq_eq_false_iff_ne]; omega
        have hjl : (j : Int) < (ds.length : Int) := by omega
        obtain ⟨b, off, rfl, hcc⟩ : ∃ b off, sa = some ⟨b, off, none⟩ ∧ ∀ i, i < ds.length → w.cell? ⟨b, off + i, none⟩ = some (.string (ds.getD i ByteArray.empty)) := by
          rcases HA.out with h | h
          · exact absurd h hne
          · exact h
        have HCC := Lib.hid hcc
        clear hcc
        go_wp2_with fail
        refine (KC.out _ (bw_alloc hbra)).mono ?_
        rintro x w1 ⟨b1, c1, rfl, hf1, hc1, hb1⟩
        have hbw1 := Lib.hid (bw_call hb1 (bw_alloc hbra))
        have hv := var_cells hb1
        have r0 := hv 0
        have r1 := hv 1
        simp only [List.getElem?_toArray, List.getElem?_cons_zero, List.getElem?_cons_succ] at r0 r1
        have F1 := Lib.hid hf1
        clear hv hf1 KC hcat
        go_wp2
        go_loopw [14] (fun i wr => ∃ k : Nat, k ≤ ds.length ∧ i = .int .i64 k ∧ Below w1.heap.size w1 wr) (fun i _ => ds.length - (intOf i).toNat)
        case atStart => exact ⟨0, Nat.zero_le _, rfl, Below.refl _ _⟩
        case round =>
          obtain ⟨k, hk2, rfl, hbr2⟩ := hrel
          by_cases hlt2 : k < ds.length
          · have F2 := F1.out.below hbr2
            obtain ⟨_, _, c2, c3⟩ : _ ∧ _ ∧ wr.cell? ⟨b1, 0 + k * 4 + 2, none⟩ = some (.int .i64 (L.getD k noFr).g) ∧ wr.cell? ⟨b1, 0 + k * 4 + 3, none⟩ = some (.string (L.getD k noFr).d) := by
              rcases F2 with h | ⟨b9, o9, e9, h⟩
              · have := HL.out; rw [h] at this; exact absurd this.symm g1
              · injection e9 with e9
                injection e9 with e9 e10
                subst e9 e10
                exact h k (by rw [HL.out]; exact hlt2)
            obtain ⟨hg3, hg4⟩ := HG.out k hlt2
            rw [show (L.getD k noFr).d = ds.getD k ByteArray.empty from hg3] at c3
            rw [show (L.getD k noFr).g = 0 + 3 * (k : Int) from hg4, Int.zero_add] at c2
            rw [Nat.zero_add] at c2 c3
            have cd := keep_cell hbr2 (some_below hbw1.out (block_lt (HCC.out k hlt2)) (HCC.out k hlt2))
            obtain ⟨d, hd⟩ : ∃ d, d = ds.getD k ByteArray.empty := ⟨_, rfl⟩
            rw [← hd] at c3 cd
            clear hd hg3 hg4
            have hk0 : (0 : Int) ≤ (k : Int) := by omega
            have hkl : (k : Int) < (ds.length : Int) := by omega
            have hk30 : k ≤ 30 := by omega
            go_wp2_with fail
            go_quiet (fail)
            go_wp2
            go_roundw
            case rel => exact ⟨k + 1, by omega, by go_num, below_drewN hbr2 _⟩
            case measure => simp [intOf]; omega
          · have hc0 : (0 : Int) ≤ (c : Int) := by omega
            have hcS : (c : Int) ≤ (S.size : Int) := by omega
            have hj0 : (0 : Int) ≤ (j : Int) := by omega
            have hjc : (j : Int) ≤ (c1 : Int) := by omega
            have hj9 : j ≤ 1000 := by omega
            go_wp2_with fail
            go_region_held3 (fun w' => w'.cell? ⟨wa.heap.size, 0, none⟩ = some (.int .i64 ep) ∧ w'.cell? ⟨wa.heap.size, 1, none⟩ = some (.int .i64 (at_ + (p : Int))))
              ((refine ⟨?_, ?_⟩ <;> (repeat (first | with_reducible assumption | with_reducible refine keep_alloc ?_ | with_reducible refine keep_drew ?_ | with_reducible refine keep_cell (by assumption) ?_))))
              (first | (go_at_call 15; refine (KD.out _ ?_).mono ?_; (repeat (first | with_reducible assumption | with_reducible refine bw_alloc ?_ | with_reducible refine bw_drew ?_ | with_reducible refine bw_call (by assumption) ?_)); rintro x w3 ⟨a2, c2, rfl, hf2, hb3⟩))
            have F2 := Lib.hid hf2
            clear hf2 KD
            go_wp2_with fail
            have hwC : IntKind.i64.wrap (at_ + (c : Int)) = at_ + (c : Int) := by rw [IntKind.wrap_i64]; omega
            have hd1 : decide ((j : Int) < (ds.length : Int)) = true := decide_eq_true hjl
            have hd2 : decide (e2 ≤ at_ + (c : Int)) = true := decide_eq_true he3
            go_region_held3 (fun w' => Below w.heap.size w w')
              ((repeat (first | with_reducible assumption | with_reducible refine bw_alloc ?_ | with_reducible refine bw_drew ?_ | with_reducible refine bw_call (by assumption) ?_)))
              (first
                | (go_at_call 18; with_reducible refine (told_j a2 (L.take j) j c2 _ hLj hj9 ?_).mono ?_; exact F2.out.keep (fun p v h => by (repeat (first | with_reducible exact h | with_reducible refine keep_alloc ?_ | with_reducible refine keep_drew ?_ | with_reducible refine keep_cell (by assumption) ?_))); rintro x w4 ⟨a4, c4, rfl, hf4, hb4⟩; have F4 := Lib.hid hf4; clear hf4)
                | (go_at_call 18; with_reducible refine (told_j (some ⟨b1, 0, none⟩) (L.take j) j c1 _ hLj hj9 ?_).mono ?_; exact (F1.out.keep (fun p v h => keep_cell hb4 (keep_drew (keep_cell hb3 (keep_drew (keep_cell hbr2 h)))))).take j; rintro x w5 ⟨a5, c5, rfl, hf5, hb5⟩; have F5 := Lib.hid hf5; clear hf5)
                | (go_at_call 17; refine (same_j a4 a5 (L.take j) j c4 c5 _ hLj hj9 ?_ ?_).mono ?_; exact F4.out.keep (fun p v h => keep_cell hb5 h); exact F5.out; rintro x w6 ⟨rfl, hb6⟩)
                | (go_at_call 8; refine (KA.out _ ?_).mono ?_; (repeat (first | with_reducible assumption | with_reducible refine bw_alloc ?_ | with_reducible refine bw_drew ?_ | with_reducible refine bw_call (by assumption) ?_)); rintro x w7 ⟨rfl, hb7⟩))
            all_goals go_wp2
            all_goals go_ret
            all_goals exact ⟨rfl, hb7⟩
  · have hout : (((ds.length : Int)) == 0) = true ∨ ((((ds.length : Int)) == 0) = false ∧ ((30 : Int) < (ds.length : Int) ∨ (¬ (30 : Int) < (ds.length : Int)) ∧ (at_ < 0 ∨ (¬ at_ < 0) ∧ (1099511627776 < at_ ∨ (¬ 1099511627776 < at_) ∧ (ep < 0 ∨ (¬ ep < 0) ∧ 1073741824 < ep))))) := by
      by_cases h0 : ds.length = 0
      · exact .inl (by rw [beq_iff_eq]; omega)
      · exact .inr ⟨by rw [beq_eq_false_iff_ne]; omega, by omega⟩
    clear hgood
    rcases hout with h1 | ⟨h1, h2 | ⟨h2, h3 | ⟨h3, h4 | ⟨h4, h5 | ⟨h5, h6⟩⟩⟩⟩⟩ <;>
    · go_enter Tryd.func7, Tryd.ntmps7
      go_wp2_with fail
      refine (KA.out _ (Below.refl _ _)).mono ?_
      rintro x w1 ⟨rfl, hb1⟩
      go_wp2
      go_ret
      exact ⟨rfl, hb1⟩
end Go.Proofs.YtpfgdmjgeelobaaDoor
