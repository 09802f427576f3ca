/-
  THE CONTRACT OF quadrigaref02.Turned: bytes as many, turned at most inside a window of 32 bits.
-/
import Derived.Test.YtpfgdmjgeelobaaDoorSumSealed
import Derived.BigRegion
import Derived.Deep.DeepCutAuto
import Derived.WalkSpells
import Derived.RegionTactic
namespace Go.Proofs.YtpfgdmjgeelobaaDoor
open Go.RowKit Crc

/-- []byte(s): a new row that holds the bytes; nothing else has turned. -/
theorem bytes_made (s : ByteArray) (w : World) : ∃ (cap : Nat) (W1 : World),
    (convert 9 69 (.string s)).run Tryd.prog w = .ok (.slice (some ⟨w.heap.size, 0, none⟩) s.size cap) W1 ∧
    (∀ j, j < s.size → W1.cell? ⟨w.heap.size, j, none⟩ = some (.int .u8 ((s.data.toList.getD j 0).toNat : Int))) ∧
    (∀ j, j < s.size → W1.frozen? ⟨w.heap.size, j, none⟩ = false) ∧ Below w.heap.size w W1 ∧ W1.heap.size = w.heap.size + 1 := by
  refine ⟨_, _, run_bytes_of_string w 9 69 5 s Tryd.underlying9 Tryd.underlying69 Tryd.underlying5, ?_, ?_, ((Below.refl _ _).drew).alloc (Nat.le_refl _) _, by rw [World.size_alloc]; rfl⟩
  · intro j hj
    have := World.cell?_alloc_mark w.drew (bytesRow s (grownCap w s.size 0 5)) 5 ((bytesRow s (grownCap w s.size 0 5)).size, (bytesRow s (grownCap w s.size 0 5)).size + 1) j
    rw [show w.drew.heap.size = w.heap.size from rfl] at this
    rw [this, bytesRow_at s _ j hj]
    have hj' : j < s.data.size := hj
    simp only [List.getD_eq_getElem?_getD, Array.getElem?_toList, Array.getElem?_eq_getElem hj', Option.getD_some]
  · intro j hj
    have := World.frozen?_alloc_mark w.drew (bytesRow s (grownCap w s.size 0 5)) 5 (bytesRow s (grownCap w s.size 0 5)).size ((bytesRow s (grownCap w s.size 0 5)).size + 1) j
    rw [show w.drew.heap.size = w.heap.size from rfl] at this
    rw [this]
    have hj' : j < s.data.size := hj
    have : j < (bytesRow s (grownCap w s.size 0 5)).size := by unfold bytesRow; rw [Array.size_append]; simp; omega
    simp; omega

def BytesAre (w : World) (B : Nat) (l : List UInt8) : Prop :=
  (∀ j, j < l.length → w.cell? ⟨B, j, none⟩ = some (.int .u8 ((l.getD j 0).toNat : Int))) ∧ (∀ j, j < l.length → w.frozen? ⟨B, j, none⟩ = false)

/-- Turned as far as the first i bits of the burst go. -/
def turn1 (at_ b i : Nat) (l : List UInt8) : List UInt8 := if b.testBit i ∧ at_ + i < 8 * l.length then l.set ((at_ + i) / 8) (l.getD ((at_ + i) / 8) 0 ^^^ UInt8.ofNat (2 ^ ((at_ + i) % 8))) else l
def turnTo (at_ b : Nat) : Nat → List UInt8 → List UInt8
  | 0, l => l
  | i + 1, l => turn1 at_ b i (turnTo at_ b i l)
theorem turn1_len (at_ b i : Nat) (l : List UInt8) : (turn1 at_ b i l).length = l.length := by unfold turn1; split <;> simp
theorem turnTo_len (at_ b : Nat) : ∀ (i : Nat) (l : List UInt8), (turnTo at_ b i l).length = l.length
  | 0, _ => rfl
  | i + 1, l => by rw [turnTo, turn1_len, turnTo_len at_ b i]

theorem BytesAre.set {w : World} {B : Nat} {l : List UInt8} (h : BytesAre w B l) (q : Nat) (v : UInt8) (n : Int) (hn : n = (v.toNat : Int)) : BytesAre (w.setCell ⟨B, q, none⟩ (.int .u8 n)).drew B (l.set q v) := by
  subst hn
  refine ⟨fun j hj => ?_, fun j hj => ?_⟩
  · rw [List.length_set] at hj
    show (w.setCell ⟨B, q, none⟩ (.int .u8 (v.toNat : Int))).cell? ⟨B, j, none⟩ = _
    by_cases e : q = j
    · subst e
      rw [World.cell?_setCell_same w _ _ (h.1 q hj)]
      simp [List.getD_eq_getElem?_getD, hj]
    · rw [World.cell?_setCell_other w _ _ _ (fun e2 => e (by injection e2)), h.1 j hj]
      simp [List.getD_eq_getElem?_getD, e]
  · rw [List.length_set] at hj
    show (w.setCell ⟨B, q, none⟩ (.int .u8 (v.toNat : Int))).frozen? ⟨B, j, none⟩ = _
    rw [World.frozen?_setCell]
    exact h.2 j hj

theorem xor_val (c : UInt8) (r : Nat) (hr : r < 8) : bits .xor .u8 (c.toNat : Int) ((2 : Int) ^ r % 256) = ((c ^^^ UInt8.ofNat (2 ^ r)).toNat : Int) := by
  have h1 : ((2 : Int) ^ r % 256) = ((2 ^ r : Nat) : Int) := by
    have : (2 : Nat) ^ r < 2 ^ 8 := Nat.pow_lt_pow_right (by omega) hr
    rw [show ((2 : Int) ^ r) = ((2 ^ r : Nat) : Int) from by simp]
    generalize (2 : Nat) ^ r = d at this ⊢
    omega
  have h2 : 2 ^ r < 256 := by
    have : (2 : Nat) ^ r < 2 ^ 8 := Nat.pow_lt_pow_right (by omega) hr
    omega
  rw [h1, u8_xor_nat _ _ c.toNat_lt h2]
  congr 1
  rw [UInt8.toNat_xor, UInt8.toNat_ofNat', Nat.mod_eq_of_lt h2]

theorem burst_bit (b : BitVec 32) (k : Nat) : (((b.toNat : Int) / 2 ^ k).tmod 2 == 1) = b.toNat.testBit k := by
  have e : (b.toNat : Int) / 2 ^ k = ((b.toNat / 2 ^ k : Nat) : Int) := by simp
  rw [e, Nat.testBit_eq_decide_div_mod_eq]
  generalize b.toNat / 2 ^ k = d
  rw [Int.tmod_eq_emod_of_nonneg (Int.natCast_nonneg d), Bool.eq_iff_iff, beq_iff_eq, decide_eq_true_iff]
  omega

theorem turnTo_hit (at_ b k : Nat) (l : List UInt8) (h1 : b.testBit k = true) (h2 : at_ + k < 8 * l.length) :
    turnTo at_ b (k + 1) l = (turnTo at_ b k l).set ((at_ + k) / 8) ((turnTo at_ b k l).getD ((at_ + k) / 8) 0 ^^^ UInt8.ofNat (2 ^ ((at_ + k) % 8))) := by
  rw [turnTo, turn1, if_pos ⟨h1, by rw [turnTo_len]; exact h2⟩]
theorem turnTo_miss (at_ b k : Nat) (l : List UInt8) (h1 : b.testBit k = false) : turnTo at_ b (k + 1) l = turnTo at_ b k l := by
  rw [turnTo, turn1, if_neg (by simp [h1])]
theorem turnTo_end (at_ b k : Nat) (l : List UInt8) (h : 8 * l.length ≤ at_ + k) : ∀ j, turnTo at_ b (k + j) l = turnTo at_ b k l
  | 0 => rfl
  | j + 1 => by
    show turnTo at_ b ((k + j) + 1) l = _
    rw [turnTo, turn1, if_neg (by rw [turnTo_len]; omega), turnTo_end at_ b k l h j]

/-- string(b) of a row that holds bytes. -/
theorem bytes_back (w : World) (B cap : Nat) (l : List UInt8) (n : Nat) (hn : l.length = n) (h : BytesAre w B l) :
    (convert 69 9 (.slice (some ⟨B, 0, none⟩) n cap)).run Tryd.prog w = .ok (.string ⟨l.toArray⟩) w := by
  subst hn
  refine run_convert_bytes_back w 69 9 5 ⟨B, 0, none⟩ cap l Tryd.underlying69 Tryd.underlying5 Tryd.underlying9 fun j hj => ?_
  have e : (⟨B, 0, none⟩ : Addr).add j = ⟨B, j, none⟩ := by unfold Addr.add; split <;> simp_all
  rw [e, h.1 j hj]
  simp [List.getD_eq_getElem?_getD, hj]

set_option maxHeartbeats 1000000 in
theorem turned_any (s : ByteArray) (at_ : Nat) (b : BitVec 32) (w : World) (hs : s.size ≤ 4000) (h0 : 0 < s.size) (hat : at_ < 8 * s.size) :
    Calls Tryd.prog 21 #[.string s, .int .i64 at_, .int .u32 (b.toNat : Int)] w fun e w' => e = .returned (.string ⟨(turnTo at_ b.toNat 32 s.data.toList).toArray⟩) ∧ Below w.heap.size w w' := by
  obtain ⟨cp, W1, hconv, hcell, hfroz, hb1, hz1⟩ := bytes_made s w
  have HC := Lib.hid hcell; clear hcell
  have HF := Lib.hid hfroz; clear hfroz
  have HZ := Lib.hid hz1; clear hz1
  go_enter Tryd.func21, Tryd.ntmps21
  go_wp2
  go_loopw [8] (fun i wr => ∃ k : Nat, k ≤ 32 ∧ i = .int .i64 k ∧ Hid (BytesAre wr w.heap.size (turnTo at_ b.toNat k s.data.toList)) ∧ Below w.heap.size w wr) (fun i _ => 32 - (intOf i).toNat)
  case atStart => exact ⟨0, Nat.zero_le _, rfl, ⟨fun j hj => HC.out j (by simpa [turnTo] using hj), fun j hj => HF.out j (by simpa [turnTo] using hj)⟩, hb1⟩
  case round =>
    obtain ⟨k, hk, rfl, hby, hbr⟩ := hrel
    have hb32 : b.toNat < 4294967296 := b.isLt
    have hsl : s.data.toList.length = s.size := Array.length_toList
    have HSL := Lib.hid hsl; clear hsl
    obtain ⟨L, hL⟩ : ∃ L, L = turnTo at_ b.toNat k s.data.toList := ⟨_, rfl⟩
    have hLl : L.length = s.size := by rw [hL, turnTo_len]; exact HSL.out
    have HLL := Lib.hid hLl; clear hLl
    rw [← hL] at hby
    have HL := Lib.hid hL; clear hL
    by_cases h32 : k < 32
    · by_cases hin : at_ + k < 8 * s.size
      · have hin' : (at_ : Int) + (k : Int) < 8 * (s.size : Int) := by omega
        have hkl : (at_ + k) / 8 < s.size := by omega
        have hc := hby.out.1 ((at_ + k) / 8) (by rw [HLL.out]; exact hkl)
        have hf := hby.out.2 ((at_ + k) / 8) (by rw [HLL.out]; exact hkl)
        obtain ⟨q, hq⟩ : ∃ q, q = (at_ + k) / 8 := ⟨_, rfl⟩
        obtain ⟨r, hr⟩ : ∃ r, r = (at_ + k) % 8 := ⟨_, rfl⟩
        obtain ⟨x, hx⟩ : ∃ x, x = L.getD q 0 := ⟨_, rfl⟩
        obtain ⟨c, hcc⟩ : ∃ c, c = x.toNat := ⟨_, rfl⟩
        rw [← hq] at hc hf hkl
        rw [← hx, ← hcc] at hc
        have e1 : IntKind.i64.wrap ((at_ : Int) + (k : Int)) = (at_ : Int) + (k : Int) := by rw [IntKind.wrap_i64]; omega
        have e2 : ((at_ : Int) + (k : Int)).tdiv 8 = (q : Int) := by rw [Int.tdiv_eq_ediv_of_nonneg (by omega)]; omega
        have e3 : IntKind.i64.wrap (q : Int) = (q : Int) := by rw [IntKind.wrap_i64]; omega
        have e4 : ((at_ : Int) + (k : Int)).tmod 8 = (r : Int) := by rw [Int.tmod_eq_emod_of_nonneg (by omega)]; omega
        have r8 : (r : Int) < 8 := by omega
        have hkl' : (q : Int) < (s.size : Int) := by omega
        have HX := Lib.hid (xor_val x r (by omega))
        have HSet := Lib.hid (BytesAre.set hby.out q (x ^^^ UInt8.ofNat (2 ^ r)) _ HX.out)
        have HT1 := Lib.hid (turnTo_hit at_ b.toNat k s.data.toList)
        have HT2 := Lib.hid (turnTo_miss at_ b.toNat k s.data.toList)
        have HB := Lib.hid (burst_bit b k)
        rw [← HL.out, ← hq, ← hr, ← hx] at HT1
        rw [← HL.out] at HT2
        rw [← hcc] at HSet
        have HQ := Lib.hid hq; clear hq
        clear hcc hr hx HX
        go_upto_region 6 with (fail)
        · have ht : b.toNat.testBit k = true := by rw [← HB.out]; assumption
          have HN := Lib.hid (HT1.out ht (by rw [HSL.out]; exact hin))
          clear ht HT1 HT2 HB
          go_region
          go_wp2
          go_roundw
          case rel => exact ⟨k + 1, by omega, by go_num, by rw [HN.out]; exact HSet.out, (hbr.setCell (Nat.le_refl _) _).drew⟩
          case measure => simp [intOf]; omega
        · have ht : b.toNat.testBit k = false := by rw [← HB.out]; assumption
          have HN := Lib.hid (HT2.out ht)
          clear ht HT1 HT2 HB
          go_wp2
          go_roundw
          case rel => exact ⟨k + 1, by omega, by go_num, by rw [HN.out]; exact hby, hbr⟩
          case measure => simp [intOf]; omega
      · have hin' : 8 * (s.size : Int) ≤ (at_ : Int) + (k : Int) := by omega
        have kc := bytes_back wr w.heap.size cp L s.size HLL.out hby.out
        have he := turnTo_end at_ b.toNat k s.data.toList (by rw [HSL.out]; omega) (32 - k)
        rw [show k + (32 - k) = 32 from by omega, ← HL.out] at he
        have HE := Lib.hid he; clear he
        go_wp2
        go_ret
        exact ⟨ret_str (by rw [HE.out]), hbr⟩
    · have kc := bytes_back wr w.heap.size cp L s.size HLL.out hby.out
      have hk32 : k = 32 := by omega
      subst hk32
      go_wp2
      go_ret
      exact ⟨ret_str (by rw [HL.out]), hbr⟩
end Go.Proofs.YtpfgdmjgeelobaaDoor
