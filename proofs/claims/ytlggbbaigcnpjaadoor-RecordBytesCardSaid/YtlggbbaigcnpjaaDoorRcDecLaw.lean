/-
  THE CONTRACT OF record.Decode, of any bytes: the right record that has these bytes, or that there is none.
-/
import Derived.Test.YtlggbbaigcnpjaaDoorRcDecAny
namespace Go.Proofs.YtlggbbaigcnpjaaDoor
open Go.RowKit

theorem nil_list : (⟨#[]⟩ : ByteArray).toList = [] := by rw [ByteArray.toList_eq]
/-- What Decode answers: a record, or nothing. -/
def DecYes (gsn : Int) (s : ByteArray) (w : World) : Prop :=
  ∃ r : Rc, r.g = gsn ∧ r.ok = true ∧ s = r.enc ∧ Calls Tryd.prog 8 #[.int .i64 gsn, .string s] w fun e w' => e = .returned (.tuple #[r.v, .int .i64 0]) ∧ Below w.heap.size w w'
def DecNo (gsn : Int) (s : ByteArray) (w : World) : Prop :=
  (∀ r : Rc, r.g = gsn → r.ok = true → ¬ s = r.enc) ∧ Calls Tryd.prog 8 #[.int .i64 gsn, .string s] w fun e w' => e = .returned (.tuple #[.agg #[.int .i64 0, .int .i64 0, .int .i64 0, .int .i64 0, .int .i64 0, .string ⟨#[]⟩, .bool false, .string ⟨#[]⟩, .bool false, .string ⟨#[]⟩, .int .i64 0], .int .i64 2]) ∧ Below w.heap.size w w'

set_option maxHeartbeats 2000000 in
theorem decode_any (gsn : Int) (s : ByteArray) (w : World) (hs : s.size ≤ 1000) : DecYes gsn s w ∨ DecNo gsn s w := by
  rcases h0 : numOf s false 1 with ⟨k, s1, b1⟩
  rcases h1 : numOf s1 b1 4 with ⟨t, s2, b2⟩
  rcases h2 : numOf s2 b2 8 with ⟨p, s3, b3⟩
  have hus8 : usz k ≤ 8 := by unfold usz; split; omega; split; omega; omega
  cases hc : (k == 2 || k == 3)
  · rcases Nat.eq_zero_or_pos (usz k) with hu | hus
    · cases hF : b3
      · by_cases hE : s3.toList = []
        · have hE := ba_nil hE
          cases hO : rcOk k gsn t p 0 ⟨#[]⟩ false ⟨#[]⟩ false ⟨#[]⟩ 0
          · exact .inr ⟨(fun r hg hr e => by have := (fn_all hg hr e h0 h1 h2 hc hu).2.2; rw [hO] at this; cases this),
              decode_fn_wrong gsn k t p s s1 s2 s3 b1 b2 b3 w hs h0 h1 h2 hc hu hF hE hO⟩
          · refine .inl ⟨⟨k, gsn, t, p, 0, ⟨#[]⟩, false, ⟨#[]⟩, false, ⟨#[]⟩, 0⟩, rfl, hO, ?_, decode_fn_yes gsn k t p s s1 s2 s3 b1 b2 b3 w hs h0 h1 h2 hc hu hF hE hO⟩
            rw [hF] at h2
            rw [head_back h0 h1 h2]
            show _ = encStr _ _ _ _ _ _ _ _ _ _
            rw [enc_split, hE]
            congr 3
            unfold encTail
            rw [hc, hu]
            rfl
        · exact .inr ⟨(fun r hg hr e => by have := (fn_all hg hr e h0 h1 h2 hc hu).2.1; rw [this] at hE; exact hE nil_list),
            decode_fn_rest gsn k t p s s1 s2 s3 b1 b2 b3 w hs h0 h1 h2 hc hu hF hE⟩
      · exact .inr ⟨(fun r hg hr e => by have := (fn_all hg hr e h0 h1 h2 hc hu).1; rw [hF] at this; cases this),
          decode_fn_short gsn k t p s s1 s2 s3 b1 b2 b3 w hs h0 h1 h2 hc hu hF⟩
    · obtain ⟨us, hu⟩ : ∃ us, usz k = us := ⟨_, rfl⟩
      rw [hu] at hus hus8
      rcases h3 : numOf s3 b3 (us : Int) with ⟨u, s9, b9⟩
      cases hF : b9
      · by_cases hE : s9.toList = []
        · have hE := ba_nil hE
          cases hO : rcOk k gsn t p 0 ⟨#[]⟩ false ⟨#[]⟩ false ⟨#[]⟩ u
          · exact .inr ⟨(fun r hg hr e => by have := (fu_all hg hr e h0 h1 h2 h3 hc hu hus).2.2; rw [hO] at this; cases this),
              decode_fu_wrong gsn k t p u s s1 s2 s3 s9 b1 b2 b3 b9 us w hs h0 h1 h2 h3 hc hu ⟨hus, hus8⟩ hF hE hO⟩
          · refine .inl ⟨⟨k, gsn, t, p, 0, ⟨#[]⟩, false, ⟨#[]⟩, false, ⟨#[]⟩, u⟩, rfl, hO, ?_, decode_fu_yes gsn k t p u s s1 s2 s3 s9 b1 b2 b3 b9 us w hs h0 h1 h2 h3 hc hu ⟨hus, hus8⟩ hF hE hO⟩
            rw [hF] at h3
            obtain ⟨f3, e3, _⟩ := numOf_back h3
            rw [f3] at h2
            rw [head_back h0 h1 h2]
            show _ = encStr _ _ _ _ _ _ _ _ _ _
            rw [enc_split, e3, hE]
            congr 3
            unfold encTail
            rw [hc, hu, if_pos hus]
            exact (cat_nil _).trans (nil_cat _).symm
        · exact .inr ⟨(fun r hg hr e => by have := (fu_all hg hr e h0 h1 h2 h3 hc hu hus).2.1; rw [this] at hE; exact hE nil_list),
            decode_fu_rest gsn k t p u s s1 s2 s3 s9 b1 b2 b3 b9 us w hs h0 h1 h2 h3 hc hu ⟨hus, hus8⟩ hF hE⟩
      · exact .inr ⟨(fun r hg hr e => by have := (fu_all hg hr e h0 h1 h2 h3 hc hu hus).1; rw [hF] at this; cases this),
          decode_fu_short gsn k t p u s s1 s2 s3 s9 b1 b2 b3 b9 us w hs h0 h1 h2 h3 hc hu ⟨hus, hus8⟩ hF⟩
  · rcases h3 : numOf s3 b3 1 with ⟨pg, s4, b4⟩
    rcases h4 : numOf s4 b4 1 with ⟨L, s5, b5⟩
    have hL := numOf_byte (s := s4) (b := b4)
    rw [h4] at hL
    obtain ⟨m, rfl⟩ := Int.eq_ofNat_of_zero_le hL.1
    have hm : m ≤ 255 := by have := hL.2; simp only at this; omega
    rcases h5 : textOf s5 b5 m with ⟨key, s6, b6⟩
    rcases h6 : valOf s6 b6 with ⟨⟨hb, sb⟩, s7, b7⟩
    rcases h7 : valOf s7 b7 with ⟨⟨ha, sa⟩, s8, b8⟩
    have ALL := fun (r : Rc) hg hr e => tn_all (r := r) (gsn := gsn) hg hr e h0 h1 h2 h3 h4 rfl h5 h6 h7 hc
    have TAIL : ∀ x, b8 = false → s8 = x → s = num 1 k ++ (num 4 t ++ (num 8 p ++ (num 1 pg ++ (num 1 (key.size : Int) ++ (key ++ (valS hb sb ++ valS ha sa))) ++ x))) := fun x hx ex => by
      subst hx ex
      obtain ⟨f3, e3⟩ := mid_back h3 h4 rfl h5 h6 h7
      rw [f3] at h2
      rw [head_back h0 h1 h2, e3]
    rcases Nat.eq_zero_or_pos (usz k) with hu | hus
    · cases hF : b8
      · by_cases hE : s8.toList = []
        · have hE := ba_nil hE
          cases hO : rcOk k gsn t p pg key hb sb ha sa 0
          · refine .inr ⟨fun r hg hr e => ?_, decode_tn_wrong gsn k t p pg s s1 s2 s3 s4 s5 s6 s7 s8 key sb sa b1 b2 b3 b4 b5 b6 b7 b8 hb ha m hm w hs h0 h1 h2 h3 h4 h5 h6 h7 hc hu hF hE hO⟩
            have h := (ALL r hg hr e).2.2
            have hz := rcOk_u0 h hu
            rw [hz, hO] at h
            cases h
          · refine .inl ⟨⟨k, gsn, t, p, pg, key, hb, sb, ha, sa, 0⟩, rfl, hO, ?_, decode_tn_yes gsn k t p pg s s1 s2 s3 s4 s5 s6 s7 s8 key sb sa b1 b2 b3 b4 b5 b6 b7 b8 hb ha m hm w hs h0 h1 h2 h3 h4 h5 h6 h7 hc hu hF hE hO⟩
            rw [TAIL _ hF hE]
            show _ = encStr _ _ _ _ _ _ _ _ _ _
            rw [enc_split]
            congr 3
            unfold encTail
            rw [hc, hu]
            rfl
        · refine .inr ⟨fun r hg hr e => ?_, decode_tn_rest gsn k t p pg s s1 s2 s3 s4 s5 s6 s7 s8 key sb sa b1 b2 b3 b4 b5 b6 b7 b8 hb ha m hm w hs h0 h1 h2 h3 h4 h5 h6 h7 hc hu hF hE⟩
          have h := (ALL r hg hr e).2.1
          rw [hu] at h
          rw [h] at hE
          exact hE nil_list
      · exact .inr ⟨(fun r hg hr e => by have := (ALL r hg hr e).1; rw [hF] at this; cases this),
          decode_tn_short gsn k t p pg s s1 s2 s3 s4 s5 s6 s7 s8 key sb sa b1 b2 b3 b4 b5 b6 b7 b8 hb ha m hm w hs h0 h1 h2 h3 h4 h5 h6 h7 hc hu hF⟩
    · obtain ⟨us, hu⟩ : ∃ us, usz k = us := ⟨_, rfl⟩
      rw [hu] at hus hus8
      rcases h8 : numOf s8 b8 (us : Int) with ⟨u, s9, b9⟩
      have ALL9 : ∀ r : Rc, r.g = gsn → r.ok = true → s = r.enc → b9 = false ∧ s9 = ⟨#[]⟩ ∧ rcOk k gsn t p pg key hb sb ha sa u = true := fun r hg hr e => by
        obtain ⟨x1, x2, x3⟩ := ALL r hg hr e
        obtain ⟨f1, f2, f3⟩ := undo_fits x3 (by rw [hu]; exact hus)
        rw [hu] at f1 f3
        rw [x1] at h8
        obtain ⟨g1, g2, g3⟩ := undo_of (by rw [x2, hu, if_pos hus]; exact (cat_nil _).symm) hus f3 f1 f2 h8
        exact ⟨g3, g2, by rw [g1]; exact x3⟩
      cases hF : b9
      · by_cases hE : s9.toList = []
        · have hE := ba_nil hE
          cases hO : rcOk k gsn t p pg key hb sb ha sa u
          · exact .inr ⟨(fun r hg hr e => by have := (ALL9 r hg hr e).2.2; rw [hO] at this; cases this),
              decode_tu_wrong gsn k t p pg u s s1 s2 s3 s4 s5 s6 s7 s8 s9 key sb sa b1 b2 b3 b4 b5 b6 b7 b8 b9 hb ha m hm us w hs h0 h1 h2 h3 h4 h5 h6 h7 h8 hc hu ⟨hus, hus8⟩ hF hE hO⟩
          · refine .inl ⟨⟨k, gsn, t, p, pg, key, hb, sb, ha, sa, u⟩, rfl, hO, ?_, decode_tu_yes gsn k t p pg u s s1 s2 s3 s4 s5 s6 s7 s8 s9 key sb sa b1 b2 b3 b4 b5 b6 b7 b8 b9 hb ha m hm us w hs h0 h1 h2 h3 h4 h5 h6 h7 h8 hc hu ⟨hus, hus8⟩ hF hE hO⟩
            rw [hF] at h8
            obtain ⟨f8, e8, _⟩ := numOf_back h8
            rw [TAIL _ f8 e8, hE]
            show _ = encStr _ _ _ _ _ _ _ _ _ _
            rw [enc_split]
            congr 3
            unfold encTail
            rw [hc, hu, if_pos hus, show (num us u ++ (⟨#[]⟩ : ByteArray)) = num us u from cat_nil _]
            rfl
        · exact .inr ⟨(fun r hg hr e => by have := (ALL9 r hg hr e).2.1; rw [this] at hE; exact hE nil_list),
            decode_tu_rest gsn k t p pg u s s1 s2 s3 s4 s5 s6 s7 s8 s9 key sb sa b1 b2 b3 b4 b5 b6 b7 b8 b9 hb ha m hm us w hs h0 h1 h2 h3 h4 h5 h6 h7 h8 hc hu ⟨hus, hus8⟩ hF hE⟩
      · exact .inr ⟨(fun r hg hr e => by have := (ALL9 r hg hr e).1; rw [hF] at this; cases this),
          decode_tu_short gsn k t p pg u s s1 s2 s3 s4 s5 s6 s7 s8 s9 key sb sa b1 b2 b3 b4 b5 b6 b7 b8 b9 hb ha m hm us w hs h0 h1 h2 h3 h4 h5 h6 h7 h8 hc hu ⟨hus, hus8⟩ hF⟩
end Go.Proofs.YtlggbbaigcnpjaaDoor
