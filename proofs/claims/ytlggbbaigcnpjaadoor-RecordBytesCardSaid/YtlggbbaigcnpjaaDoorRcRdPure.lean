/-
  WHAT IS READ OF A RECORD'S BYTES, BY PLACES, IS THE RECORD.
-/
import Derived.Test.YtlggbbaigcnpjaaDoorRcDecAny
import Derived.Test.YtlggbbaigcnpjaaDoorRcRt
namespace Go.Proofs.YtlggbbaigcnpjaaDoor
open Go.RowKit

theorem byte_be {x : Int} (_h0 : 0 ≤ x) (h : x.toNat < 256) : (be 1 x.toNat).getD 0 0 = UInt8.ofNat x.toNat ∧ (be 1 x.toNat).length = 1 := by
  refine ⟨?_, be_len 1 _⟩
  rw [be_succ]
  simp only [List.getD_cons_zero, Nat.pow_zero, Nat.div_one]
  rw [Nat.mod_eq_of_lt h]
theorem atOf_cat (A C : ByteArray) (x : Int) (h0 : 0 ≤ x) (h : x.toNat < 256) : atOf (A ++ (num 1 x ++ C)) A.size = x.toNat := by
  have hf : fitsN 1 x = true := fitsN_of h0 (by omega)
  unfold atOf
  rw [ba_cat, ba_cat, num_list (by omega) (by omega) hf, List.getD_eq_getElem?_getD, List.getElem?_append_right (by rw [ba_size]; exact Nat.le_refl _), ba_size, Nat.sub_self]
  obtain ⟨e1, e2⟩ := byte_be h0 h
  rw [List.getElem?_append_left (by omega), ← List.getD_eq_getElem?_getD, e1]
  simp
  omega
theorem cutOf_cat (A B C : ByteArray) : cutOf (A ++ (B ++ C)) A.size B.size = B := by
  unfold cutOf
  have h1 : (A ++ (B ++ C)).size = A.size + (B.size + C.size) := by rw [ByteArray.size_append, ByteArray.size_append]
  rw [h1, Nat.min_eq_left (by omega), Nat.min_eq_left (by omega)]
  apply ba_ext
  rw [ba_extract, ba_cat, ba_cat, ← ba_size A, ← ba_size B, List.take_length_add_append, List.take_left, List.drop_left]
theorem rtOf_num {K : Nat} {x : Int} (h1 : 1 ≤ K) (h8 : K ≤ 8) (h : fitsN K x = true) (hx : x ≤ 9223372036854775807) : (rtOf (num K x) (K : Int) : Int) = x := by
  have q := numOf_enc h1 h8 h hx nil false
  rw [cat_nil] at q
  unfold numOf at q
  unfold rtOf
  split at q
  · rename_i n r e
    rw [e]
    simp only [Prod.mk.injEq] at q
    exact q.1
  · simp at q

/-- What is read of any bytes. -/
def rdI1 (s : ByteArray) : Nat := 15 + atOf s 14
def rdI2 (s : ByteArray) : Nat := rdI1 s + max (atOf s (rdI1 s)) 1
def rdI3 (s : ByteArray) : Nat := rdI2 s + max (atOf s (rdI2 s)) 1
def rdHas (s : ByteArray) (i : Nat) : Bool := decide (0 < atOf s i)
def rdTxt (s : ByteArray) (i : Nat) : ByteArray := if 0 < atOf s i then cutOf s (i + 1) (atOf s i - 1) else ⟨#[]⟩
def rd (gsn : Int) (s : ByteArray) : Rc :=
  if atOf s 0 = 2 ∨ atOf s 0 = 3 then ⟨atOf s 0, gsn, rtOf (cutOf s 1 4) 4, rtOf (cutOf s 5 8) 8, atOf s 13, cutOf s 15 (atOf s 14), rdHas s (rdI1 s), rdTxt s (rdI1 s), rdHas s (rdI2 s), rdTxt s (rdI2 s), if atOf s 0 = 3 then rtOf (cutOf s (rdI3 s) 8) 8 else 0⟩
  else ⟨atOf s 0, gsn, rtOf (cutOf s 1 4) 4, rtOf (cutOf s 5 8) 8, 0, ⟨#[]⟩, false, ⟨#[]⟩, false, ⟨#[]⟩, if atOf s 0 = 4 then atOf s 13 else 0⟩

theorem val_at (A C : ByteArray) (hb : Bool) (sb : ByteArray) (hs : sb.size ≤ 16) (hn : hb = false → sb = ⟨#[]⟩) (i : Nat) (hi : i = A.size) :
    rdHas (A ++ (valS hb sb ++ C)) i = hb ∧ rdTxt (A ++ (valS hb sb ++ C)) i = sb ∧ i + max (atOf (A ++ (valS hb sb ++ C)) i) 1 = (A ++ valS hb sb).size := by
  subst hi
  cases hb
  · obtain rfl := hn rfl
    have e : valS false ⟨#[]⟩ = num 1 0 := rfl
    have ha := atOf_cat A C 0 (by omega) (by decide)
    rw [e]
    unfold rdHas rdTxt
    rw [ha, ByteArray.size_append, num_len (by omega) (by omega) (by decide)]
    exact ⟨rfl, rfl, rfl⟩
  · have e : valS true sb = num 1 ((sb.size : Int) + 1) ++ sb := rfl
    have hf : fitsN 1 ((sb.size : Int) + 1) = true := fitsN_of (by omega) (by omega)
    have hz := num_len (by omega) (by omega) hf
    have ha := atOf_cat A (sb ++ C) ((sb.size : Int) + 1) (by omega) (by omega)
    have ht : ((sb.size : Int) + 1).toNat = sb.size + 1 := by omega
    have hc := cutOf_cat (A ++ num 1 ((sb.size : Int) + 1)) sb C
    rw [ByteArray.size_append, hz] at hc
    rw [e]
    rw [ByteArray.append_assoc] at hc ⊢
    rw [ht] at ha
    unfold rdHas rdTxt
    rw [ha, if_pos (by omega), Nat.add_sub_cancel, hc, ByteArray.size_append, ByteArray.size_append, hz]
    exact ⟨by simp, rfl, by omega⟩

theorem rd_head {k t p : Int} (hk : 1 ≤ k ∧ k ≤ 6) (ht : 1 ≤ t ∧ t ≤ 2147483647) (hp : 0 ≤ p ∧ p ≤ 4611686018427387903) (T : ByteArray) :
    atOf (num 1 k ++ (num 4 t ++ (num 8 p ++ T))) 0 = k.toNat ∧ (rtOf (cutOf (num 1 k ++ (num 4 t ++ (num 8 p ++ T))) 1 4) 4 : Int) = t ∧ (rtOf (cutOf (num 1 k ++ (num 4 t ++ (num 8 p ++ T))) 5 8) 8 : Int) = p ∧ (num 1 k ++ num 4 t ++ num 8 p).size = 13 := by
  have f1 : fitsN 1 k = true := fitsN_of (by omega) (by omega)
  have f4 : fitsN 4 t = true := fitsN_of (by omega) (by omega)
  have f8 : fitsN 8 p = true := fitsN_of (by omega) (by omega)
  have z1 := num_len (by omega) (by omega) f1
  have z4 := num_len (by omega) (by omega) f4
  have z8 := num_len (by omega) (by omega) f8
  have a0 := atOf_cat nil (num 4 t ++ (num 8 p ++ T)) k (by omega) (by omega)
  rw [nil_cat] at a0
  have c1 := cutOf_cat (num 1 k) (num 4 t) (num 8 p ++ T)
  rw [z1, z4] at c1
  have c5 := cutOf_cat (num 1 k ++ num 4 t) (num 8 p) T
  rw [ByteArray.size_append, z1, z4, z8, ByteArray.append_assoc] at c5
  have t4 := rtOf_num (K := 4) (by omega) (by omega) f4 (by omega)
  have t8 := rtOf_num (K := 8) (by omega) (by omega) f8 (by omega)
  refine ⟨a0, ?_, ?_, ?_⟩
  · rw [c1]; exact t4
  · rw [c5]; exact t8
  · rw [ByteArray.size_append, ByteArray.size_append, z1, z4, z8]
theorem rd_enc (r : Rc) (h : r.ok = true) : rd r.g r.enc = r := by
  obtain ⟨k, g, t, p, pg, key, hb, sb, ha, sa, u⟩ := r
  unfold Rc.ok at h
  simp only at h
  obtain ⟨a1, a2, a3, a4, a5, a6, a7, a8⟩ := rcOk_num h
  have es : (Rc.mk k g t p pg key hb sb ha sa u).enc = num 1 k ++ (num 4 t ++ (num 8 p ++ encTail k pg key hb sb ha sa u)) := enc_split _ _ _ _ _ _ _ _ _ _
  obtain ⟨r0, r1, r2, r3⟩ := rd_head (k := k) (t := t) (p := p) ⟨a1, a2⟩ ⟨a3, a4⟩ ⟨a7, by omega⟩ (encTail k pg key hb sb ha sa u)
  rw [← es] at r0 r1 r2
  have hk : ((k.toNat : Nat) : Int) = k := by omega
  by_cases hc : (k == 2 || k == 3) = true
  · have hc' : k.toNat = 2 ∨ k.toNat = 3 := by
      rw [Bool.or_eq_true, beq_iff_eq, beq_iff_eq] at hc; omega
    obtain ⟨c1, c2, c3, c4, c5, c6⟩ := rcOk_chg h hc
    obtain ⟨n1, n2⟩ := rcOk_vals h hc
    generalize hT : (if 0 < usz k then num (usz k) u else nil) = T
    have et : encTail k pg key hb sb ha sa u = num 1 pg ++ (num 1 (key.size : Int) ++ (key ++ (valS hb sb ++ (valS ha sa ++ T)))) := by
      unfold encTail; rw [if_pos hc, hT]; simp only [ByteArray.append_assoc]
    rw [et] at es
    generalize hs : (Rc.mk k g t p pg key hb sb ha sa u).enc = s at es r0 r1 r2
    have fp : fitsN 1 pg = true := fitsN_of (by omega) (by omega)
    have fk : fitsN 1 (key.size : Int) = true := fitsN_of (by omega) (by omega)
    have zp := num_len (by omega) (by omega) fp
    have zk := num_len (by omega) (by omega) fk
    have p13 := atOf_cat (num 1 k ++ num 4 t ++ num 8 p) (num 1 (key.size : Int) ++ (key ++ (valS hb sb ++ (valS ha sa ++ T)))) pg (by omega) (by omega)
    rw [r3, show num 1 k ++ num 4 t ++ num 8 p ++ (num 1 pg ++ (num 1 (key.size : Int) ++ (key ++ (valS hb sb ++ (valS ha sa ++ T))))) = s by rw [es]; simp only [ByteArray.append_assoc]] at p13
    have p14 := atOf_cat (num 1 k ++ num 4 t ++ num 8 p ++ num 1 pg) (key ++ (valS hb sb ++ (valS ha sa ++ T))) (key.size : Int) (by omega) (by omega)
    rw [ByteArray.size_append, r3, zp, show num 1 k ++ num 4 t ++ num 8 p ++ num 1 pg ++ (num 1 (key.size : Int) ++ (key ++ (valS hb sb ++ (valS ha sa ++ T)))) = s by rw [es]; simp only [ByteArray.append_assoc]] at p14
    have p15 := cutOf_cat (num 1 k ++ num 4 t ++ num 8 p ++ num 1 pg ++ num 1 (key.size : Int)) key (valS hb sb ++ (valS ha sa ++ T))
    rw [ByteArray.size_append, ByteArray.size_append, r3, zp, zk, show num 1 k ++ num 4 t ++ num 8 p ++ num 1 pg ++ num 1 (key.size : Int) ++ (key ++ (valS hb sb ++ (valS ha sa ++ T))) = s by rw [es]; simp only [ByteArray.append_assoc]] at p15
    have hi1 : rdI1 s = (num 1 k ++ num 4 t ++ num 8 p ++ num 1 pg ++ num 1 (key.size : Int) ++ key).size := by
      unfold rdI1
      rw [ByteArray.size_append, ByteArray.size_append, ByteArray.size_append, r3, zp, zk, p14]; omega
    obtain ⟨v1, v2, v3⟩ := val_at (num 1 k ++ num 4 t ++ num 8 p ++ num 1 pg ++ num 1 (key.size : Int) ++ key) (valS ha sa ++ T) hb sb (by omega) n1 _ hi1
    rw [show num 1 k ++ num 4 t ++ num 8 p ++ num 1 pg ++ num 1 (key.size : Int) ++ key ++ (valS hb sb ++ (valS ha sa ++ T)) = s by rw [es]; simp only [ByteArray.append_assoc]] at v1 v2 v3
    have hi2 : rdI2 s = (num 1 k ++ num 4 t ++ num 8 p ++ num 1 pg ++ num 1 (key.size : Int) ++ key ++ valS hb sb).size := v3
    obtain ⟨x1, x2, x3⟩ := val_at (num 1 k ++ num 4 t ++ num 8 p ++ num 1 pg ++ num 1 (key.size : Int) ++ key ++ valS hb sb) T ha sa (by omega) n2 _ hi2
    rw [show num 1 k ++ num 4 t ++ num 8 p ++ num 1 pg ++ num 1 (key.size : Int) ++ key ++ valS hb sb ++ (valS ha sa ++ T) = s by rw [es]; simp only [ByteArray.append_assoc]] at x1 x2 x3
    have hi3 : rdI3 s = (num 1 k ++ num 4 t ++ num 8 p ++ num 1 pg ++ num 1 (key.size : Int) ++ key ++ valS hb sb ++ valS ha sa).size := x3
    have hu : (if k.toNat = 3 then (rtOf (cutOf s (rdI3 s) 8) 8 : Int) else 0) = u := by
      by_cases e3 : k = 3
      · subst e3
        rw [if_pos (by decide)]
        have hz : usz 3 = 8 := by decide
        obtain ⟨f1, f2, _⟩ := undo_fits h (by rw [hz]; omega)
        rw [hz] at f1
        rw [hz, if_pos (by omega)] at hT
        have hcu := cutOf_cat (num 1 3 ++ num 4 t ++ num 8 p ++ num 1 pg ++ num 1 (key.size : Int) ++ key ++ valS hb sb ++ valS ha sa) (num 8 u) nil
        rw [num_len (by omega) (by omega) f1, cat_nil, ← hi3, hT, show num 1 3 ++ num 4 t ++ num 8 p ++ num 1 pg ++ num 1 (key.size : Int) ++ key ++ valS hb sb ++ valS ha sa ++ T = s by rw [es]; simp only [ByteArray.append_assoc]] at hcu
        rw [hcu, ← hT]
        exact rtOf_num (K := 8) (by omega) (by omega) f1 f2
      · rw [if_neg (by omega)]
        have hz : usz k = 0 := by
          unfold usz; rw [if_neg e3, if_neg (by rcases hc' with h | h <;> omega)]
        exact (rcOk_u0 h hz).symm
    unfold rd
    rw [r0, if_pos hc', r1, r2, p13, p14]
    have ek : ((key.size : Int)).toNat = key.size := by omega
    rw [ek, p15, v1, v2, x1, x2]
    rw [hk, show ((pg.toNat : Nat) : Int) = pg by omega]
    rw [hu]
  · have hcf : (k == 2 || k == 3) = false := by simpa using hc
    have hc' : ¬ (k.toNat = 2 ∨ k.toNat = 3) := by
      rw [Bool.or_eq_true, beq_iff_eq, beq_iff_eq] at hc; omega
    obtain ⟨b1, b2, b3, b4, b5, b6⟩ := rcOk_plain h hcf
    have hu : (if k.toNat = 4 then (atOf (Rc.mk k g t p pg key hb sb ha sa u).enc 13 : Int) else 0) = u := by
      by_cases e4 : k = 4
      · subst e4
        rw [if_pos (by decide)]
        have hz : usz 4 = 1 := by decide
        obtain ⟨f1, f2, _⟩ := undo_fits h (by rw [hz]; omega)
        rw [hz] at f1
        obtain ⟨g1, g2⟩ := fitsN_parts f1
        have p13 := atOf_cat (num 1 4 ++ num 4 t ++ num 8 p) nil u g1 (by omega)
        rw [r3, cat_nil] at p13
        have et : encTail 4 pg key hb sb ha sa u = num 1 u := by
          unfold encTail; rw [if_neg hc, hz, if_pos (by omega)]; exact nil_cat _
        rw [es, et, ← ByteArray.append_assoc, ← ByteArray.append_assoc, p13]
        omega
      · rw [if_neg (by omega)]
        have hz : usz k = 0 := by
          unfold usz
          rw [if_neg (by rintro rfl; exact hc rfl), if_neg e4]
        exact (rcOk_u0 h hz).symm
    unfold rd
    rw [r0, if_neg hc', r1, r2, hk, b1, b2, b3, b4, b5, b6]
    rw [b1, b2, b3, b4, b5, b6] at hu
    rw [hu]
end Go.Proofs.YtlggbbaigcnpjaaDoor
