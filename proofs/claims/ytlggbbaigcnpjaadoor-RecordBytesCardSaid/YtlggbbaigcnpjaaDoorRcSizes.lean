/-
  THE WALK OF quadrigalaw04.RecordSizes: it returns true, and writes nothing that was there.
-/
import Derived.Test.YtlggbbaigcnpjaaDoorRcGreat
namespace Go.Proofs.YtlggbbaigcnpjaaDoor
open Go.RowKit

theorem encode_any (k g t p pg u : Int) (key sb sa : ByteArray) (hb ha : Bool) (w : World) :
    Calls Tryd.prog 7 #[.agg #[.int .i64 k, .int .i64 g, .int .i64 t, .int .i64 p, .int .i64 pg, .string key, .bool hb, .string sb, .bool ha, .string sa, .int .i64 u]] w
      fun e w' => e = .returned (.tuple #[.string (if rcOk k g t p pg key hb sb ha sa u then encStr k t p pg key hb sb ha sa u else ⟨#[]⟩), .int .i64 (if rcOk k g t p pg key hb sb ha sa u then 0 else 1)]) ∧ Below w.heap.size w w' := by
  cases h : rcOk k g t p pg key hb sb ha sa u
  · exact encode_no k g t p pg u key sb sa hb ha w h
  · exact encode_yes k g t p pg u key sb sa hb ha w h

def vlen (h : Bool) (s : ByteArray) : Nat := if h then s.size + 1 else 1
theorem valS_len {h : Bool} {s : ByteArray} (hs : s.size ≤ 100) : (valS h s).size = vlen h s := by
  unfold valS vlen
  cases h
  · rw [if_neg (by decide), if_neg (by decide)]
    exact num_len (by omega) (by omega) (by decide)
  · rw [if_pos rfl, if_pos rfl, ByteArray.size_append, num_len (by omega) (by omega) (by unfold fitsN; simp; omega)]
    omega
theorem fitsN_of {K : Nat} {x : Int} (h0 : 0 ≤ x) (h : x.toNat < 256 ^ K) : fitsN K x = true := by
  unfold fitsN; simp [h0, h]
theorem encStr_size {k g t p pg u : Int} {key sb sa : ByteArray} {hb ha : Bool} (h : rcOk k g t p pg key hb sb ha sa u = true) :
    (encStr k t p pg key hb sb ha sa u).size = 13 + (if (k == 2 || k == 3) then 2 + key.size + vlen hb sb + vlen ha sa else 0) + usz k ∧ (encStr k t p pg key hb sb ha sa u).size ≤ 100 := by
  obtain ⟨h1, h2, h3, h4, h5, h6, h7, h8⟩ := rcOk_num h
  obtain ⟨h9, h10⟩ := rcOk_u h
  have a1 : (num 1 k).size = 1 := num_len (by omega) (by omega) (fitsN_of (by omega) (by omega))
  have a4 : (num 4 t).size = 4 := num_len (by omega) (by omega) (fitsN_of (by omega) (by omega))
  have a8 : (num 8 p).size = 8 := num_len (by omega) (by omega) (fitsN_of (by omega) (by omega))
  have hH : (encHead k t p).size = 13 := by unfold encHead; rw [ByteArray.size_append, ByteArray.size_append, a1, a4, a8]
  have hu : 0 < usz k → (num (usz k) u).size = usz k := fun hz => by
    have hu3 := h
    unfold rcOk at hu3
    simp only [Bool.and_eq_true] at hu3
    have hu4 := hu3.1.2
    unfold rcUndone at hu4
    by_cases e3 : k = 3
    · have : usz k = 8 := by unfold usz; rw [if_pos e3]
      rw [this]
      exact num_len (by omega) (by omega) (fitsN_of (by omega) (by omega))
    · by_cases e4 : k = 4
      · have : usz k = 1 := by unfold usz; rw [if_neg e3, if_pos e4]
        rw [this]
        rw [if_neg e3, if_pos e4] at hu4
        simp only [Bool.and_eq_true, decide_eq_true_eq] at hu4
        exact num_len (by omega) (by omega) (fitsN_of (by omega) (by omega))
      · have : usz k = 0 := by unfold usz; rw [if_neg e3, if_neg e4]
        omega
  have hus : usz k ≤ 8 := by unfold usz; split; omega; split; omega; omega
  have hB : (encBody k t p pg key hb sb ha sa).size = 13 + (if (k == 2 || k == 3) then 2 + key.size + vlen hb sb + vlen ha sa else 0) ∧ (encBody k t p pg key hb sb ha sa).size ≤ 80 := by
    unfold encBody
    by_cases hc : (k == 2 || k == 3) = true
    · obtain ⟨c1, c2, c3, c4, c5, c6⟩ := rcOk_chg h hc
      rw [if_pos hc, if_pos hc]
      unfold encMid
      have b1 : (num 1 pg).size = 1 := num_len (by omega) (by omega) (fitsN_of (by omega) (by omega))
      have b2 : (num 1 (key.size : Int)).size = 1 := num_len (by omega) (by omega) (fitsN_of (by omega) (by omega))
      have b3 := valS_len (h := hb) (s := sb) (by omega)
      have b4 := valS_len (h := ha) (s := sa) (by omega)
      have v3 : vlen hb sb ≤ 17 := by unfold vlen; split; omega; omega
      have v4 : vlen ha sa ≤ 17 := by unfold vlen; split; omega; omega
      rw [ByteArray.size_append, ByteArray.size_append, ByteArray.size_append, ByteArray.size_append, ByteArray.size_append, hH, b1, b2, b3, b4]
      omega
    · rw [if_neg hc, if_neg hc, hH]
      omega
  unfold encStr
  by_cases hz : 0 < usz k
  · rw [if_pos hz, ByteArray.size_append, hu hz, hB.1]
    have := hB.2
    have := hB.1
    omega
  · rw [if_neg hz, hB.1]
    have := hB.2
    have := hB.1
    omega
theorem zero_not : rcOk 0 0 0 0 0 ⟨#[]⟩ false ⟨#[]⟩ false ⟨#[]⟩ 0 = false := by decide +kernel
theorem same_size {k g t p u g' t' p' u' pg : Int} {key sb sa : ByteArray} {hb ha : Bool} (h : rcOk k g t p pg key hb sb ha sa u = true) (h' : rcOk k g' t' p' pg key hb sb ha sa u' = true) :
    (((encStr k t p pg key hb sb ha sa u).size : Int) != ((encStr k t' p' pg key hb sb ha sa u').size : Int)) = false := by
  rw [(encStr_size h).1, (encStr_size h').1, bne_eq_false_iff_eq]
theorem back_size {g t p u gsn prev pg : Int} {key sb sa : ByteArray} {hb ha : Bool} (h : rcOk 2 g t p pg key hb sb ha sa u = true) (h' : rcOk 3 gsn t prev pg key ha sa hb sb g = true) :
    (((encStr 3 t prev pg key ha sa hb sb g).size : Int) == ((encStr 2 t p pg key hb sb ha sa u).size : Int) + 8) = true := by
  rw [(encStr_size h).1, (encStr_size h').1, beq_iff_eq]
  have e3 : usz 3 = 8 := rfl
  have e2 : usz 2 = 0 := rfl
  rw [e2, e3]
  simp
  omega
end Go.Proofs.YtlggbbaigcnpjaaDoor
