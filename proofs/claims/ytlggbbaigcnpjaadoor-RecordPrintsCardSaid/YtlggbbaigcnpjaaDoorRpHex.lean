/-
  THE CONTRACT OF record.hex: a text in hex digits.
-/
import Derived.Test.YtlggbbaigcnpjaaDoorNPut
import Derived.Deep.AppendLies
import Derived.Lib.Hide
namespace Go.Proofs.YtlggbbaigcnpjaaDoor
open Go.RowKit

def hexDigits : ByteArray := ⟨#[48, 49, 50, 51, 52, 53, 54, 55, 56, 57, 97, 98, 99, 100, 101, 102]⟩
def hexD (n : Nat) : UInt8 := hexDigits.data.toList.getD n 0
def hexL (l : List UInt8) : List UInt8 := l.flatMap fun c => [hexD (c.toNat / 16), hexD (c.toNat % 16)]
theorem hexL_len : ∀ l : List UInt8, (hexL l).length = 2 * l.length
  | [] => rfl
  | c :: l => by
    have := hexL_len l
    unfold hexL at this ⊢
    rw [List.flatMap_cons, List.length_append, this]; simp; omega
theorem hexL_take (l : List UInt8) (j : Nat) (h : j < l.length) : hexL (l.take (j + 1)) = hexL (l.take j) ++ [hexD (l[j].toNat / 16), hexD (l[j].toNat % 16)] := by
  rw [List.take_succ_eq_append_getElem h]; unfold hexL; rw [List.flatMap_append]; rfl
theorem hexAt (n : Nat) (h : n < hexDigits.size) : hexDigits[n] = hexD n := by
  unfold hexD
  have hl : n < hexDigits.data.toList.length := by rw [Array.length_toList]; exact h
  rw [List.getD_eq_getElem?_getD, List.getElem?_eq_getElem hl]
  rfl

set_option maxRecDepth 100000 in
set_option maxHeartbeats 1000000 in
theorem hex_any (s : ByteArray) (w : World) (hs : s.size ≤ 1000) :
    Calls Tryd.prog 31 #[.string s] w fun e w' => e = .returned (.string ⟨(hexL s.data.toList).toArray⟩) ∧ Below w.heap.size w w' := by
  obtain ⟨i0, hi, hz0, hz1, hz2⟩ := info_parts infoB
  obtain ⟨M, hM⟩ : ∃ M, M = 2 * s.size := ⟨_, rfl⟩
  have hm1 : IntKind.i64.wrap (2 * (s.size : Int)) = (M : Int) := by rw [IntKind.wrap_i64]; omega
  have hm2 : wrap64 (2 * (s.size : Int)) = (M : Int) := by unfold wrap64; omega
  have hmle : M ≤ 2000 := by omega
  clear hM
  go_enter Tryd.func31, Tryd.ntmps31
  go_wp2_with (at_make; refine wpList_make_own _ rfl _ _ 53 rfl w.heap.size 5 i0 (.int .u8 0) 1 Tryd.underlying53 hi hz0 hz1 _ _ _ M rfl rfl (by omega) ?b2 ?b3 (Nat.le_refl _) ?_)
  case b2 => rw [hz2]; omega
  case b3 => unfold maxLen; omega
  intro w0 hown0 hgrow0
  have hb0 : Below w.heap.size w w0 := (Below.refl _ w).grown hgrow0 (Nat.le_refl _) (fun k hk => by cases hk)
  have HO0 := Lib.hid hown0; clear hown0 hgrow0 hm1 hm2
  go_wp2
  go_loopw [3, 11] (fun v i wr => ∃ j : Nat, j ≤ s.size ∧ i = .int .i64 j ∧ Hid (wr.ownsRow w.heap.size 5 1 v (hexL (s.data.toList.take j)).length (byteVals (hexL (s.data.toList.take j)))) ∧ Below w.heap.size w wr) (fun _ i _ => s.size - (intOf i).toNat)
  case atStart => exact ⟨0, Nat.zero_le _, rfl, HO0.out, hb0⟩
  case round =>
    obtain ⟨j, hj, rfl, hown, hbr⟩ := hrel
    by_cases hlt : j < s.size
    · have hsz := hbr.size
      have hj2 : (j : Int) < (s.size : Int) := by omega
      obtain ⟨c, hc⟩ : ∃ c, s[j] = c := ⟨_, rfl⟩
      have hcl := c.toNat_lt
      obtain ⟨n1, hn1⟩ : ∃ n1, n1 = c.toNat / 16 := ⟨_, rfl⟩
      obtain ⟨n2, hn2⟩ : ∃ n2, n2 = c.toNat % 16 := ⟨_, rfl⟩
      have ha : bits .and .u8 ((c.toNat : Nat) : Int) 15 = (n2 : Int) := by rw [u8_and15 _ (by omega) (by omega), hn2]; omega
      have hs1 : (c.toNat : Int) / 16 = (n1 : Int) := by omega
      have l1 : (n1 : Int) < 16 := by omega
      have l2 : (n2 : Int) < 16 := by omega
      have h1 := Lib.hid hn1; have h2 := Lib.hid hn2; clear hn1 hn2
      have hown3 := hown.out
      obtain ⟨FT, hFT⟩ : ∃ FT, FT = hexL (s.data.toList.take j) := ⟨_, rfl⟩
      rw [← hFT] at hown3
      have hFl : FT.length ≤ 2000 := by rw [hFT, hexL_len, List.length_take]; omega
      have HFTe := Lib.hid hFT; clear hFT hown
      go_wp2_with fail
      go_region_held3 (fun _ => True) (trivial) ((refine step_append_lies _ (by rfl) _ _ _ (by rfl) w.heap.size 5 i0 _ 1 1 Tryd.underlying53 hi hz0 hz1 hz2 rfl (by omega) u3 _ _ (by rfl) (hown3.alloc _) ⟨wr.heap.size, 0, none⟩ 2 2 _ (by rfl) (by rfl) (World.news_of_block (heap_alloc_new wr _)) (by simp [Value.oneCell']) (by omega) (by unfold maxLen; omega) (by omega) (by simp; omega) (wr.heap.size + 1) (by simp) ?_; intro gg cap w1 hown1 hgrow hat hgl))
      all_goals
        have hown2 : w1.ownsRow w.heap.size 5 1 (.slice (some ⟨gg, 0, none⟩) (FT.length + 2) cap) (FT ++ [hexD n1, hexD n2]).length (byteVals (FT ++ [hexD n1, hexD n2])) := by
          have e1 : byteVals (FT ++ [hexD n1, hexD n2]) = byteVals FT ++ [.int .u8 ((hexD n1).toNat : Int), .int .u8 ((hexD n2).toNat : Int)] := by simp [byteVals]
          have e2 : (FT ++ [hexD n1, hexD n2]).length = FT.length + 2 := by simp
          rw [e1, e2, ← hexAt n1 (by show n1 < 16; omega), ← hexAt n2 (by show n2 < 16; omega)]
          exact hown1
        have hbn : Below w.heap.size w w1 := ((hbr.alloc hsz _).drew).grown hgrow (by simp; omega) (fun k hk => (hown3.lt k hk).1)
        have hT := hexL_take s.data.toList j (by rw [Array.length_toList]; exact hlt)
        have hcc : s.data.toList[j]'(by rw [Array.length_toList]; exact hlt) = c := hc
        rw [hcc, ← h1.out, ← h2.out, ← HFTe.out] at hT
        rw [← hT] at hown2
        have HON := Lib.hid hown2
        clear hown1 hown2 hgrow hown3 hT hcc hc hat
        go_wp2
        go_roundw
        case rel => exact ⟨j + 1, by omega, by go_num, HON.out, hbn⟩
        case measure => simp [intOf]; omega
    · have hfull : hexL (s.data.toList.take j) = hexL s.data.toList := by rw [List.take_of_length_le (by rw [Array.length_toList]; show s.size ≤ j; omega)]
      rw [hfull] at hown
      have kc := bytes_str hown.out
      go_wp2
      go_ret
      exact ⟨rfl, hbr⟩
end Go.Proofs.YtlggbbaigcnpjaaDoor
