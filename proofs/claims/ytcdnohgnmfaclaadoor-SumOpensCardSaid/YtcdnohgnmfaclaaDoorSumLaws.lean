/-
  THE WALKS OF quadrigalaw02.SumOf, SumOpens, SumParts: each returns true, and writes nothing that was there.
-/
import Derived.Test.YtcdnohgnmfaclaaDoorSumGood
namespace Go.Proofs.YtcdnohgnmfaclaaDoor
open Go.RowKit Crc

set_option maxHeartbeats 400000 in
theorem sumOf_walk (a : Option Addr) (ss : List ByteArray) (cap : Nat) (w : World) (hs : Short ss) (hn : ss.length ≤ maxLen) (hc : ss.length ≤ cap) (ha : StrsAt w a ss) (ht : Tab w) :
    Calls Tryd.prog 3 #[.slice a ss.length cap] w fun e w' => e = .returned (.bool true) ∧ Below w.heap.size w w' := by
  have HT := Lib.hid ht; clear ht
  have HA := Lib.hid ha; clear ha
  have HSh := Lib.hid hs; clear hs
  go_enter Tryd.func3, Tryd.ntmps3
  go_wp2_with fail
  refine (lawjoin_any a ss cap _ hn HA.out).mono ?_
  rintro e w1 ⟨t, ok, rfl, hok, rfl⟩
  cases ok
  · clear hok
    go_wp2_with fail
    refine (awake_any _ HT.out).mono ?_
    rintro e w1 ⟨rfl, hb1⟩
    go_wp2
    go_ret
    exact ⟨rfl, hb1⟩
  · obtain ⟨rfl, h20, h2000⟩ := hok rfl
    clear hok
    obtain ⟨J, hJ⟩ : ∃ J, J = joined ss := ⟨_, rfl⟩
    rw [← hJ] at h2000 ⊢
    have HJ := Lib.hid hJ; clear hJ
    have hJs : (⟨J.toArray⟩ : ByteArray).size ≤ maxLen := by show J.toArray.size ≤ _; unfold maxLen; simp; omega
    go_wp2_with fail
    refine (of_any a ss cap _ HSh.out hn HA.out HT.out).mono ?_
    rw [← HJ.out]
    rintro e w1 ⟨rfl, rfl⟩
    go_wp2_with fail
    refine (refSum_any _ _ hJs).mono ?_
    rintro e w1 ⟨rfl, rfl⟩
    go_wp2_with fail
    refine (laid_any a ss cap _ HSh.out hn HA.out HT.out).mono ?_
    rw [← HJ.out]
    rintro e w1 ⟨rfl, hb1⟩
    go_wp2_with fail
    refine (refLaid_any _ _ hJs).mono ?_
    rintro e w2 ⟨rfl, hb2⟩
    have hb2 := hb1.trans (hb2.mono hb1.size)
    go_wp2_with fail
    refine (seal_any a ss cap _ HSh.out (HA.out.below hb2) hc (by omega) (by rw [← HJ.out]; omega) (HT.out.below hb2)).mono ?_
    rw [← HJ.out, show sealStr J = ⟨J.toArray⟩ ++ laidStr J from rfl]
    rintro e w3 ⟨rfl, hb3⟩
    have hb3 := hb2.trans (hb3.mono hb2.size)
    go_wp2_with fail
    refine (refLaid_any _ _ hJs).mono ?_
    rintro e w4 ⟨rfl, hb4⟩
    have hb4 := hb3.trans (hb4.mono hb3.size)
    have hz := laid_size J
    go_wp2_with fail
    refine (awake_any _ (HT.out.below hb4)).mono ?_
    rintro e w5 ⟨rfl, hb5⟩
    go_wp2
    go_ret
    exact ⟨rfl, hb4.trans (hb5.mono hb4.size)⟩

set_option maxHeartbeats 400000 in
theorem sumOpens_walk (a : Option Addr) (ss : List ByteArray) (cap : Nat) (w : World) (hs : Short ss) (hn : ss.length ≤ maxLen) (ha : StrsAt w a ss) (ht : Tab w) :
    Calls Tryd.prog 4 #[.slice a ss.length cap] w fun e w' => e = .returned (.bool true) ∧ Below w.heap.size w w' := by
  have hn' := hn
  unfold maxLen at hn
  have HN := Lib.hid hn'; clear hn'
  have HT := Lib.hid ht; clear ht
  have HA := Lib.hid ha; clear ha
  have HSh := Lib.hid hs; clear hs
  go_enter Tryd.func4, Tryd.ntmps4
  go_wp2_with fail
  refine (lawjoin_any a ss cap _ HN.out HA.out).mono ?_
  rintro e w1 ⟨t, ok, rfl, hok, rfl⟩
  clear hok
  cases ok
  · go_wp2_with fail
    refine (awake_any _ HT.out).mono ?_
    rintro e w1 ⟨rfl, hb1⟩
    go_wp2
    go_ret
    exact ⟨rfl, hb1⟩
  · go_wp2_with fail
    go_loopw [5, 6] (fun x i wr => ∃ k : Nat, k ≤ ss.length ∧ i = .int .i64 k ∧ x = .bool (goodAll (ss.take k)) ∧ Below w.heap.size w wr) (fun _ i _ => ss.length - (intOf i).toNat)
    case atStart => exact ⟨0, Nat.zero_le _, rfl, rfl, Below.refl _ _⟩
    case round =>
      obtain ⟨k, hk, rfl, rfl, hbr⟩ := hrel
      by_cases hlt : k < ss.length
      · obtain ⟨b, off, rfl, hc⟩ : ∃ b off, a = some ⟨b, off, none⟩ ∧ ∀ i, i < ss.length → w.cell? ⟨b, off + i, none⟩ = some (.string (ss.getD i ByteArray.empty)) := by
          rcases HA.out with h | h
          · rw [h] at hlt; simp at hlt
          · exact h
        have hmem : ss.getD k ByteArray.empty ∈ ss := by simp [List.getD_eq_getElem?_getD, hlt]
        have hlt0 := cell_lt (hc k hlt)
        have hck0 := hc k hlt
        have hck := (hbr.cell (p := ⟨b, off + k, none⟩) hlt0).trans hck0
        clear hc
        have G1 := Lib.hid (goodAll_take ss k hlt)
        obtain ⟨s, hs⟩ : ∃ s, s = ss.getD k ByteArray.empty := ⟨_, rfl⟩
        rw [← hs] at G1 hmem hck hck0
        have HK0 := Lib.hid hck0; clear hck0
        have hsz := HSh.out s hmem
        clear hs
        obtain ⟨g, hg⟩ : ∃ g, g = goodAll (ss.take k) := ⟨_, rfl⟩
        rw [← hg] at G1 ⊢
        clear hg
        have HO := Lib.hid fun W ht => open_any s W hsz ht
        have HR := Lib.hid fun W => refOpen_any s W hsz
        obtain ⟨r1, h1⟩ : ∃ r1, r1 = (openRes s).1 := ⟨_, rfl⟩
        obtain ⟨r2, h2⟩ : ∃ r2, r2 = (openRes s).2 := ⟨_, rfl⟩
        rw [← h1, ← h2] at HO HR
        rw [← h2] at G1
        clear h1 h2
        go_wp2_with fail
        refine (HO.out _ (HT.out.below hbr)).mono ?_
        rintro e w1 ⟨rfl, hb1⟩
        have hb1 := hbr.trans (hb1.mono hbr.size)
        have hck1 := (hb1.cell (p := ⟨b, off + k, none⟩) hlt0).trans HK0.out
        go_wp2_with fail
        refine (HR.out _).mono ?_
        rintro e w2 ⟨rfl, hb2⟩
        have hb2 := hb1.trans (hb2.mono hb1.size)
        cases g <;> cases r2
        all_goals
          go_wp2
          go_roundw
          case rel => exact ⟨k + 1, by omega, by go_num, by rw [G1.out]; rfl, hb2⟩
          case measure => simp [intOf]; omega
      · have hgk : goodAll (ss.take k) = goodAll ss := by rw [List.take_of_length_le (by omega)]
        rw [hgk]
        clear hgk
        obtain ⟨g, hg⟩ : ∃ g, g = goodAll ss := ⟨_, rfl⟩
        rw [← hg]
        have HG := Lib.hid hg; clear hg
        go_wp2_with fail
        refine (good_any a ss cap _ HSh.out HN.out (HA.out.below hbr) (HT.out.below hbr)).mono ?_
        rw [← HG.out]
        rintro e w1 ⟨rfl, hb1⟩
        have hb1 := hbr.trans (hb1.mono hbr.size)
        go_wp2_with fail
        refine (awake_any _ (HT.out.below hb1)).mono ?_
        rintro e w2 ⟨rfl, hb2⟩
        go_wp2
        go_ret
        exact ⟨rfl, hb1.trans (hb2.mono hb1.size)⟩
end Go.Proofs.YtcdnohgnmfaclaaDoor
