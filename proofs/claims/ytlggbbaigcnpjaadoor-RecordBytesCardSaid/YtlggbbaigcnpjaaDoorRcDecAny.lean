/-
  WHAT record.Decode ANSWERS, OF ANY BYTES: the right record that has these bytes, or that there is none.
-/
import Derived.Test.YtlggbbaigcnpjaaDoorRcParse
import Derived.ChangeKeysEq
import Derived.Test.YtlggbbaigcnpjaaDoorRcDecFn
import Derived.Test.YtlggbbaigcnpjaaDoorRcDecFu
import Derived.Test.YtlggbbaigcnpjaaDoorRcDecTn
import Derived.Test.YtlggbbaigcnpjaaDoorRcDecTu
namespace Go.Proofs.YtlggbbaigcnpjaaDoor
open Go.RowKit

def Rc.enc (r : Rc) : ByteArray := encStr r.k r.t r.p r.pg r.key r.hb r.sb r.ha r.sa r.u
def nil : ByteArray := ⟨#[]⟩
theorem cat_nil (a : ByteArray) : a ++ nil = a := by
  apply ba_ext; rw [ba_cat]; exact List.append_nil _
theorem nil_cat (a : ByteArray) : nil ++ a = a := by
  apply ba_ext; rw [ba_cat]; rfl
def encTail (k pg : Int) (key : ByteArray) (hb : Bool) (sb : ByteArray) (ha : Bool) (sa : ByteArray) (u : Int) : ByteArray :=
  (if (k == 2 || k == 3) then num 1 pg ++ (num 1 (key.size : Int) ++ (key ++ (valS hb sb ++ valS ha sa))) else nil) ++ (if 0 < usz k then num (usz k) u else nil)
theorem enc_split (k t p pg u : Int) (key sb sa : ByteArray) (hb ha : Bool) : encStr k t p pg key hb sb ha sa u = num 1 k ++ (num 4 t ++ (num 8 p ++ encTail k pg key hb sb ha sa u)) := by
  unfold encStr encBody encHead encMid encTail
  by_cases h : (k == 2 || k == 3) = true
  · rw [if_pos h, if_pos h]
    by_cases hz : 0 < usz k
    · rw [if_pos hz, if_pos hz]; simp only [ByteArray.append_assoc]
    · rw [if_neg hz, if_neg hz, cat_nil]; simp only [ByteArray.append_assoc]
  · rw [if_neg h, if_neg h, nil_cat]
    by_cases hz : 0 < usz k
    · rw [if_pos hz, if_pos hz]; simp only [ByteArray.append_assoc]
    · rw [if_neg hz, if_neg hz, cat_nil]; simp only [ByteArray.append_assoc]
/-- The first three numbers of a record's bytes. -/
theorem head_of {r : Rc} {s s1 s2 s3 : ByteArray} {b1 b2 b3 : Bool} {k t p : Int} (hr : r.ok = true) (e : s = r.enc) (h0 : numOf s false 1 = (k, s1, b1)) (h1 : numOf s1 b1 4 = (t, s2, b2)) (h2 : numOf s2 b2 8 = (p, s3, b3)) :
    k = r.k ∧ t = r.t ∧ p = r.p ∧ s3 = encTail r.k r.pg r.key r.hb r.sb r.ha r.sa r.u ∧ b3 = false := by
  obtain ⟨a1, a2, a3, a4, a5, a6, a7, a8⟩ := rcOk_num hr
  have es : s = num 1 r.k ++ (num 4 r.t ++ (num 8 r.p ++ encTail r.k r.pg r.key r.hb r.sb r.ha r.sa r.u)) := by rw [e]; exact enc_split _ _ _ _ _ _ _ _ _ _
  have q0 := numOf_enc (K := 1) (x := r.k) (by omega) (by omega) (fitsN_of (by omega) (by omega)) (by omega) (num 4 r.t ++ (num 8 r.p ++ encTail r.k r.pg r.key r.hb r.sb r.ha r.sa r.u)) false
  rw [← es, show ((1 : Nat) : Int) = 1 from rfl, h0] at q0
  simp only [Prod.mk.injEq] at q0
  obtain ⟨rfl, rfl, rfl⟩ := q0
  have q1 := numOf_enc (K := 4) (x := r.t) (by omega) (by omega) (fitsN_of (by omega) (by omega)) (by omega) (num 8 r.p ++ encTail r.k r.pg r.key r.hb r.sb r.ha r.sa r.u) false
  rw [show ((4 : Nat) : Int) = 4 from rfl, h1] at q1
  simp only [Prod.mk.injEq] at q1
  obtain ⟨rfl, rfl, rfl⟩ := q1
  have q2 := numOf_enc (K := 8) (x := r.p) (by omega) (by omega) (fitsN_of (by omega) (by omega)) (by omega) (encTail r.k r.pg r.key r.hb r.sb r.ha r.sa r.u) false
  rw [show ((8 : Nat) : Int) = 8 from rfl, h2] at q2
  simp only [Prod.mk.injEq] at q2
  obtain ⟨rfl, rfl, rfl⟩ := q2
  exact ⟨rfl, rfl, rfl, rfl, rfl⟩
theorem head_back {s s1 s2 s3 : ByteArray} {b1 b2 : Bool} {k t p : Int} (h0 : numOf s false 1 = (k, s1, b1)) (h1 : numOf s1 b1 4 = (t, s2, b2)) (h2 : numOf s2 b2 8 = (p, s3, false)) :
    s = num 1 k ++ (num 4 t ++ (num 8 p ++ s3)) := by
  obtain ⟨rfl, e2, _⟩ := numOf_back (K := 8) h2
  obtain ⟨rfl, e1, _⟩ := numOf_back (K := 4) h1
  obtain ⟨_, e0, _⟩ := numOf_back (K := 1) h0
  rw [e0, e1, e2]
/-- The rest, of a record whose kind changes a page. -/
theorem mid_of {X s4 s5 s6 s7 s8 key sb sa key' sb' sa' T : ByteArray} {b4 b5 b6 b7 b8 hb ha hb' ha' : Bool} {pg pg' L : Int} {m : Nat}
    (hX : X = num 1 pg ++ (num 1 (key.size : Int) ++ (key ++ (valS hb sb ++ valS ha sa))) ++ T) (hpg : 0 ≤ pg ∧ pg ≤ 63) (hky : key.size ≤ 8) (hsb : sb.size ≤ 16) (hsa : sa.size ≤ 16) (nb : hb = false → sb = ⟨#[]⟩) (na : ha = false → sa = ⟨#[]⟩)
    (h3 : numOf X false 1 = (pg', s4, b4)) (h4 : numOf s4 b4 1 = (L, s5, b5)) (hL : L = (m : Int)) (h5 : textOf s5 b5 m = (key', s6, b6)) (h6 : valOf s6 b6 = ((hb', sb'), s7, b7)) (h7 : valOf s7 b7 = ((ha', sa'), s8, b8)) :
    pg' = pg ∧ key' = key ∧ hb' = hb ∧ sb' = sb ∧ ha' = ha ∧ sa' = sa ∧ s8 = T ∧ b8 = false := by
  have eX : X = num 1 pg ++ (num 1 (key.size : Int) ++ (key ++ (valS hb sb ++ (valS ha sa ++ T)))) := by rw [hX]; simp only [ByteArray.append_assoc]
  have q3 := numOf_enc (K := 1) (x := pg) (by omega) (by omega) (fitsN_of (by omega) (by omega)) (by omega) (num 1 (key.size : Int) ++ (key ++ (valS hb sb ++ (valS ha sa ++ T)))) false
  rw [← eX, show ((1 : Nat) : Int) = 1 from rfl, h3] at q3
  simp only [Prod.mk.injEq] at q3
  obtain ⟨rfl, rfl, rfl⟩ := q3
  have q4 := numOf_enc (K := 1) (x := (key.size : Int)) (by omega) (by omega) (fitsN_of (by omega) (by omega)) (by omega) (key ++ (valS hb sb ++ (valS ha sa ++ T))) false
  rw [show ((1 : Nat) : Int) = 1 from rfl, h4] at q4
  simp only [Prod.mk.injEq] at q4
  obtain ⟨rfl, rfl, rfl⟩ := q4
  have hm : m = key.size := by omega
  rw [hm, textOf_enc] at h5
  simp only [Prod.mk.injEq] at h5
  obtain ⟨rfl, rfl, rfl⟩ := h5
  rw [valOf_enc (by omega) nb] at h6
  simp only [Prod.mk.injEq] at h6
  obtain ⟨⟨rfl, rfl⟩, rfl, rfl⟩ := h6
  rw [valOf_enc (by omega) na] at h7
  simp only [Prod.mk.injEq] at h7
  obtain ⟨⟨rfl, rfl⟩, rfl, rfl⟩ := h7
  exact ⟨rfl, rfl, rfl, rfl, rfl, rfl, rfl, rfl⟩
theorem mid_back {X s4 s5 s6 s7 s8 key sb sa : ByteArray} {b3 b4 b5 b6 b7 hb ha : Bool} {pg L : Int} {m : Nat}
    (h3 : numOf X b3 1 = (pg, s4, b4)) (h4 : numOf s4 b4 1 = (L, s5, b5)) (hL : L = (m : Int)) (h5 : textOf s5 b5 m = (key, s6, b6)) (h6 : valOf s6 b6 = ((hb, sb), s7, b7)) (h7 : valOf s7 b7 = ((ha, sa), s8, false)) :
    b3 = false ∧ X = num 1 pg ++ (num 1 (key.size : Int) ++ (key ++ (valS hb sb ++ valS ha sa))) ++ s8 := by
  obtain ⟨rfl, e7, _⟩ := valOf_back h7
  obtain ⟨rfl, e6, _⟩ := valOf_back h6
  obtain ⟨rfl, e5, hm⟩ := textOf_back h5
  obtain ⟨rfl, e4, _⟩ := numOf_back (K := 1) h4
  obtain ⟨f3, e3, _⟩ := numOf_back (K := 1) h3
  refine ⟨f3, ?_⟩
  rw [e3, e4, e5, e6, e7, hL, hm]
  simp only [ByteArray.append_assoc]
theorem ba_nil {s : ByteArray} (h : s.toList = []) : s = ⟨#[]⟩ := by
  apply ba_ext
  rw [← ByteArray.toList_eq]; exact h
theorem rcOk_plain {k g t p pg u : Int} {key sb sa : ByteArray} {hb ha : Bool} (h : rcOk k g t p pg key hb sb ha sa u = true) (hc : (k == 2 || k == 3) = false) :
    pg = 0 ∧ key = ⟨#[]⟩ ∧ hb = false ∧ sb = ⟨#[]⟩ ∧ ha = false ∧ sa = ⟨#[]⟩ := by
  unfold rcOk rcSame at h
  rw [hc] at h
  simp only [Bool.and_eq_true, Bool.false_or, decide_eq_true_eq, Bool.not_eq_true'] at h
  obtain ⟨_, ⟨⟨⟨⟨h1, h2⟩, h3⟩, h4⟩, h5⟩, h6⟩ := h
  exact ⟨h1, ba_nil h2, h3, ba_nil h4, h5, ba_nil h6⟩
theorem rcOk_u0 {k g t p pg u : Int} {key sb sa : ByteArray} {hb ha : Bool} (h : rcOk k g t p pg key hb sb ha sa u = true) (hu : usz k = 0) : u = 0 := by
  unfold rcOk at h
  simp only [Bool.and_eq_true] at h
  have hx := h.1.2
  unfold rcUndone at hx
  by_cases e3 : k = 3
  · subst e3; exact absurd hu (by decide)
  · by_cases e4 : k = 4
    · subst e4; exact absurd hu (by decide)
    · rw [if_neg e3, if_neg e4] at hx
      simpa using hx
theorem rcOk_vals {k g t p pg u : Int} {key sb sa : ByteArray} {hb ha : Bool} (h : rcOk k g t p pg key hb sb ha sa u = true) (hc : (k == 2 || k == 3) = true) :
    (hb = false → sb = ⟨#[]⟩) ∧ (ha = false → sa = ⟨#[]⟩) := by
  unfold rcOk rcChg at h
  rw [hc] at h
  simp only [Bool.and_eq_true, Bool.not_true, Bool.false_or] at h
  obtain ⟨⟨⟨_, ⟨⟨_, h5, h6⟩, _⟩⟩, _⟩, _⟩ := h
  have hv : ∀ (b : Bool) (s : ByteArray), vlOk b s = true → b = false → s = ⟨#[]⟩ := fun b s hs hb => by
    subst hb
    unfold vlOk at hs
    simp only [Bool.false_and, Bool.not_false, Bool.true_and, Bool.false_or, decide_eq_true_eq] at hs
    exact ba_nil hs
  exact ⟨hv _ _ h5, hv _ _ h6⟩
/-- An Undo's number fits where it is laid. -/
theorem undo_fits {k g t p pg u : Int} {key sb sa : ByteArray} {hb ha : Bool} (h : rcOk k g t p pg key hb sb ha sa u = true) (hz : 0 < usz k) : fitsN (usz k) u = true ∧ u ≤ 9223372036854775807 ∧ usz k ≤ 8 := by
  obtain ⟨h9, h10⟩ := rcOk_u h
  have hu3 := h
  unfold rcOk at hu3
  simp only [Bool.and_eq_true] at hu3
  have hu4 := hu3.1.2
  unfold rcUndone at hu4
  by_cases e3 : k = 3
  · have : usz k = 8 := by unfold usz; rw [if_pos e3]
    rw [this]
    exact ⟨fitsN_of (by omega) (by omega), by omega, by omega⟩
  · by_cases e4 : k = 4
    · have : usz k = 1 := by unfold usz; rw [if_neg e3, if_pos e4]
      rw [this]
      rw [if_neg e3, if_pos e4] at hu4
      simp only [Bool.and_eq_true, decide_eq_true_eq] at hu4
      exact ⟨fitsN_of (by omega) (by omega), by omega, by omega⟩
    · have : usz k = 0 := by unfold usz; rw [if_neg e3, if_neg e4]
      omega
/-- The end of a record's bytes: its Undo. -/
theorem undo_of {X s9 : ByteArray} {b9 : Bool} {us : Nat} {u u' : Int} (hX : X = num us u ++ nil) (h1 : 1 ≤ us) (h8 : us ≤ 8) (hf : fitsN us u = true) (hu : u ≤ 9223372036854775807) (h : numOf X false (us : Int) = (u', s9, b9)) : u' = u ∧ s9 = ⟨#[]⟩ ∧ b9 = false := by
  have q := numOf_enc h1 h8 hf hu nil false
  rw [← hX, h] at q
  simp only [Prod.mk.injEq] at q
  exact q

theorem fn_all {r : Rc} {gsn : Int} {s s1 s2 s3 : ByteArray} {b1 b2 b3 : Bool} {k t p : Int} (hg : r.g = gsn) (hr : r.ok = true) (e : s = r.enc) (h0 : numOf s false 1 = (k, s1, b1)) (h1 : numOf s1 b1 4 = (t, s2, b2)) (h2 : numOf s2 b2 8 = (p, s3, b3))
    (hc : (k == 2 || k == 3) = false) (hu : usz k = 0) : b3 = false ∧ s3 = ⟨#[]⟩ ∧ rcOk k gsn t p 0 ⟨#[]⟩ false ⟨#[]⟩ false ⟨#[]⟩ 0 = true := by
  obtain ⟨rfl, rfl, rfl, e3, e4⟩ := head_of hr e h0 h1 h2
  have hr' := hr
  unfold Rc.ok at hr'
  obtain ⟨a1, a2, a3, a4, a5, a6⟩ := rcOk_plain hr' hc
  have a7 := rcOk_u0 hr' hu
  refine ⟨e4, ?_, ?_⟩
  · rw [e3]; unfold encTail; rw [hc, hu]; rfl
  · rw [← hg]; rw [a1, a2, a3, a4, a5, a6, a7] at hr'; exact hr'
theorem fu_all {r : Rc} {gsn : Int} {s s1 s2 s3 s9 : ByteArray} {b1 b2 b3 b9 : Bool} {k t p u : Int} {us : Nat} (hg : r.g = gsn) (hr : r.ok = true) (e : s = r.enc) (h0 : numOf s false 1 = (k, s1, b1)) (h1 : numOf s1 b1 4 = (t, s2, b2)) (h2 : numOf s2 b2 8 = (p, s3, b3))
    (h3 : numOf s3 b3 (us : Int) = (u, s9, b9)) (hc : (k == 2 || k == 3) = false) (hu : usz k = us) (hus : 0 < us) : b9 = false ∧ s9 = ⟨#[]⟩ ∧ rcOk k gsn t p 0 ⟨#[]⟩ false ⟨#[]⟩ false ⟨#[]⟩ u = true := by
  obtain ⟨rfl, rfl, rfl, e3, rfl⟩ := head_of hr e h0 h1 h2
  have hr' := hr
  unfold Rc.ok at hr'
  obtain ⟨a1, a2, a3, a4, a5, a6⟩ := rcOk_plain hr' hc
  obtain ⟨f1, f2, f3⟩ := undo_fits hr' (by rw [hu]; exact hus)
  rw [hu] at f1 f3
  obtain ⟨g1, g2, g3⟩ := undo_of (by rw [e3]; unfold encTail; rw [hc, hu, if_pos hus]; exact (nil_cat _).trans (cat_nil _).symm) hus f3 f1 f2 h3
  refine ⟨g3, g2, ?_⟩
  rw [← hg, g1]; rw [a1, a2, a3, a4, a5, a6] at hr'; exact hr'
theorem tn_all {r : Rc} {gsn : Int} {s s1 s2 s3 s4 s5 s6 s7 s8 key sb sa : ByteArray} {b1 b2 b3 b4 b5 b6 b7 b8 hb ha : Bool} {k t p pg L : Int} {m : Nat} (hg : r.g = gsn) (hr : r.ok = true) (e : s = r.enc) (h0 : numOf s false 1 = (k, s1, b1)) (h1 : numOf s1 b1 4 = (t, s2, b2)) (h2 : numOf s2 b2 8 = (p, s3, b3))
    (h3 : numOf s3 b3 1 = (pg, s4, b4)) (h4 : numOf s4 b4 1 = (L, s5, b5)) (hL : L = (m : Int)) (h5 : textOf s5 b5 m = (key, s6, b6)) (h6 : valOf s6 b6 = ((hb, sb), s7, b7)) (h7 : valOf s7 b7 = ((ha, sa), s8, b8))
    (hc : (k == 2 || k == 3) = true) : b8 = false ∧ s8 = (if 0 < usz k then num (usz k) r.u else nil) ∧ rcOk k gsn t p pg key hb sb ha sa r.u = true := by
  obtain ⟨rfl, rfl, rfl, e3, rfl⟩ := head_of hr e h0 h1 h2
  have hr' := hr
  unfold Rc.ok at hr'
  obtain ⟨c1, c2, c3, c4, c5, c6⟩ := rcOk_chg hr' hc
  obtain ⟨n1, n2⟩ := rcOk_vals hr' hc
  obtain ⟨rfl, rfl, rfl, rfl, rfl, rfl, g1, g2⟩ := mid_of (T := if 0 < usz r.k then num (usz r.k) r.u else nil) (by rw [e3]; unfold encTail; rw [if_pos hc]) ⟨c1, c2⟩ c4 c5 c6 n1 n2 h3 h4 hL h5 h6 h7
  exact ⟨g2, g1, by rw [← hg]; exact hr'⟩
end Go.Proofs.YtlggbbaigcnpjaaDoor
