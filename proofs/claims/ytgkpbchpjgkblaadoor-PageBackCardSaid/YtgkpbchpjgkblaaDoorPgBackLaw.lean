/-
  PageBack: THE LAW'S WALK.
-/
import Derived.Test.YtgkpbchpjgkblaaDoorPgRightsLaw
import Derived.Test.YtgkpbchpjgkblaaDoorPgSetAny
namespace Go.Proofs.YtgkpbchpjgkblaaDoor
open Go.RowKit
theorem clsAt_drew {W : World} {a : Option Addr} {l : List (ByteArray × ByteArray)} (h : ClsAt W a l) : ClsAt W.drew a l := h
theorem clsAt_alloc {W : World} {o : Obj} {a : Option Addr} {l : List (ByteArray × ByteArray)} (h : ClsAt W a l) : ClsAt (W.alloc o) a l := h.below ((Below.refl _ _).alloc (Nat.le_refl _) _)
set_option maxRecDepth 100000 in
set_option maxHeartbeats 4000000 in
theorem pageBack_early (no g : Int) (a : Option Addr) (l : List (ByteArray × ByteArray)) (c : Nat) (key : ByteArray) (h : Bool) (s : ByteArray) (w : World) (hn : l.length ≤ maxLen) (ha : ClsAt w a l) (ht : Tab w) (hbad : clGreat l = true ∨ 100 < key.size ∨ 100 < s.size ∨ 2305843009213693952 < g) :
    Calls Tryd.prog 6 #[.agg #[.int .i64 no, .int .i64 g, .slice a l.length c], .string key, .agg #[.bool h, .string s]] w fun e w' => e = .returned (.bool true) ∧ Below w.heap.size w w' := by
  have E0 := Lib.hid (PgE.mk (W := w) (b := none) (lb := []) ha (.inl rfl) ht)
  have KGA := Lib.hid (fun W (h : PgE W a l none []) => great_any no g a l c W hn h.ca)
  have KAW := Lib.hid (fun W (h : PgE W a l none []) => awake11_any W h.tab)
  clear ha ht
  have hq : clGreat l = true ∨ (clGreat l = false ∧ (100 < (key.size : Int))) ∨ (clGreat l = false ∧ ((key.size : Int) ≤ 100) ∧ (100 < (s.size : Int))) ∨ (clGreat l = false ∧ ((key.size : Int) ≤ 100) ∧ ((s.size : Int) ≤ 100) ∧ 2305843009213693952 < g) := by
    cases h1 : clGreat l
    · rw [h1] at hbad
      by_cases h2 : 100 < key.size
      · exact .inr (.inl ⟨rfl, by omega⟩)
      · by_cases h3 : 100 < s.size
        · exact .inr (.inr (.inl ⟨rfl, by omega, by omega⟩))
        · refine .inr (.inr (.inr ⟨rfl, by omega, by omega, ?_⟩))
          rcases hbad with x | x | x | x
          · cases x
          · omega
          · omega
          · exact x
    · exact .inl rfl
  clear hbad
  rcases hq with hq | ⟨hq, h2⟩ | ⟨hq, h2, h3⟩ | ⟨hq, h2, h3, h4⟩
  all_goals
    rw [hq] at KGA
    clear hq
    go_enter Tryd.func6, Tryd.ntmps6
    go_wp2_with fail
    refine (KGA.out _ E0.out.alloc.alloc).mono ?_
    rintro e w1 ⟨rfl, hb1⟩
    have E1 := Lib.hid (PgE.below hb1 E0.out.alloc.alloc)
    have B1 := Lib.hid (bw_call hb1 (bw_alloc (bw_alloc (Below.refl _ w))))
    have a1 : w1.cell? ⟨w.heap.size, 1, none⟩ = some (.int .i64 g) := keep_cell hb1 (keep_alloc (new_cell rfl rfl))
    have b1 : w1.cell? ⟨w.heap.size + 1, 1, none⟩ = some (.string s) := keep_cell hb1 (new_cell (by rw [World.size_alloc]) rfl)
    clear hb1 KGA
    go_wp2_with fail
    refine (KAW.out _ E1.out).mono ?_
    rintro e w2 ⟨rfl, hb2⟩
    have B2 := bw_call hb2 B1.out
    clear hb2
    go_wp2
    go_ret
    exact ⟨rfl, B2⟩
theorem vl_false {s : ByteArray} (h : vlOk false s = true) : s = ⟨#[]⟩ := by
  unfold vlOk at h
  simp at h
  rw [ByteArray.toList_eq] at h
  cases s with | mk a =>
  have : a.toList = [] := h
  congr 1
  exact Array.toList_inj.1 this
theorem get_set {l : List (ByteArray × ByteArray)} {no gsn g : Int} {key : ByteArray} {h : Bool} {s : ByteArray} (he : setE no gsn l key h s g = 0) : clGet (ptL l key h s) key = (h, s) := by
  obtain ⟨h1, h2, h3, _⟩ := setE_ok he
  rw [get_put (cellsB_parts (pgOk_parts h1).2.2.2.2.2).1]
  cases h with
  | true => rfl
  | false => rw [vl_false h3]; rfl
theorem len_less {l : List (ByteArray × ByteArray)} {key s : ByteArray} (hu : UpL l) (hf : (clGet l key).1 = true) : (ptL l key false s).length < l.length := by
  induction l with
  | nil => cases hf
  | cons c l ih =>
    have hu' := hu
    unfold UpL at hu'
    rw [List.pairwise_cons] at hu'
    obtain ⟨hab, hul⟩ := hu'
    by_cases e : c.1 = key
    · rw [ptL, if_pos e]
      show ([] ++ l).length < _
      simp
    · by_cases e2 : upC key c.1 = true
      · exfalso
        rw [get_above (fun x hx => by
          rcases List.mem_cons.1 hx with rfl | hx
          · exact e2
          · exact upC_trans e2 (hab x hx))] at hf
        cases hf
      · rw [ptL, if_neg e, if_neg e2]
        rw [clGet, if_neg e] at hf
        have := ih hul hf
        simp only [List.length_cons]
        omega
theorem set_back_ok {l : List (ByteArray × ByteArray)} {no gsn g : Int} {key : ByteArray} {h : Bool} {s : ByteArray} (he : setE no gsn l key h s g = 0) (hx : g + 1 ≤ 4611686018427387903) : setE no g (ptL l key h s) key (clGet l key).1 (clGet l key).2 (g + 1) = 0 := by
  have hr := put_right he
  obtain ⟨h1, h2, h3, h4, h5, h6, h7⟩ := setE_ok he
  obtain ⟨hu, hc⟩ := cellsB_parts (pgOk_parts h1).2.2.2.2.2
  have hv := get_ok (key := key) hc
  have hg := get_set he
  unfold setE
  rw [hr, h2, hv, hg, if_neg (by intro q; rcases q with q | q | q | q | q; all_goals (first | cases q | omega))]
  cases hf : (clGet l key).1 with
  | true =>
    rw [if_neg (fun q => by cases q.1)]
    rw [if_neg]
    rintro ⟨_, q, q8⟩
    obtain ⟨_, _, l3⟩ := len_put hu key h s
    have q : h = false := q
    subst q
    have hlt := len_less (s := s) hu hf
    have := (pgOk_parts h1).2.2.2.2.1
    omega
  | false =>
    rw [if_neg, if_neg (fun q => by cases q.1)]
    rintro ⟨_, q⟩
    have q : h = false := q
    exact h6 ⟨q, hf⟩
set_option maxRecDepth 100000 in
set_option maxHeartbeats 4000000 in
theorem pageBack_no (no g : Int) (a : Option Addr) (l : List (ByteArray × ByteArray)) (c : Nat) (key : ByteArray) (h : Bool) (s : ByteArray) (w : World) (hn : l.length ≤ maxLen) (hlc : l.length ≤ c) (hz : a = none → c = 0) (ha : ClsAt w a l) (ht : Tab w) (hG : clGreat l = false) (hk : (key.size : Int) ≤ 100) (hs : (s.size : Int) ≤ 100) (hg : g ≤ 2305843009213693952) (hg0 : (Lit.int .i64 g).wf = true) (he : setE no g l key h s (g + 1) ≠ 0) :
    Calls Tryd.prog 6 #[.agg #[.int .i64 no, .int .i64 g, .slice a l.length c], .string key, .agg #[.bool h, .string s]] w fun e w' => e = .returned (.bool true) ∧ Below w.heap.size w w' := by
  have hl20 := (clGreat_no hG).1
  have E0 := Lib.hid (PgE.mk (W := w) (b := none) (lb := []) ha (.inl rfl) ht)
  have KGA := Lib.hid (fun W (h : PgE W a l none []) => great_any no g a l c W hn h.ca)
  have KAW := Lib.hid (fun W (h : PgE W a l none []) => awake11_any W h.tab)
  have KG := Lib.hid (fun W (h : PgE W a l none []) => get_any no g a l c key W (by omega) h.ca)
  have KS := Lib.hid (fun W (hh : PgE W a l none []) => set_any no g a l c key h s (g + 1) W hn hlc hz hh.ca)
  have KN := Lib.hid (fun W => refSame_any 0 0 none [] 0 0 0 none [] 0 W (by decide) (.inl rfl) (.inl rfl))
  have hg1 : -9223372036854775808 ≤ g := by
    have h0 : IntKind.i64.min ≤ g ∧ g ≤ IntKind.i64.max := by simpa [Lit.wf] using hg0
    have e : IntKind.i64.min = -9223372036854775808 := by decide
    omega
  have hw : IntKind.i64.wrap (g + 1) = g + 1 := IntWalk.i64_in _ (by omega)
  have HE := Lib.hid he
  clear ha ht he
  go_enter Tryd.func6, Tryd.ntmps6
  rw [hG] at KGA
  go_wp2_with fail
  refine (KGA.out _ E0.out.alloc.alloc).mono ?_
  rintro e w1 ⟨rfl, hb1⟩
  have E1 := Lib.hid (PgE.below hb1 E0.out.alloc.alloc)
  have B1 := Lib.hid (bw_call hb1 (bw_alloc (bw_alloc (Below.refl _ w))))
  have a0 : w1.cell? ⟨w.heap.size, 0, none⟩ = some (.int .i64 no) := keep_cell hb1 (keep_alloc (new_cell rfl rfl))
  have a1 : w1.cell? ⟨w.heap.size, 1, none⟩ = some (.int .i64 g) := keep_cell hb1 (keep_alloc (new_cell rfl rfl))
  have a2 : w1.cell? ⟨w.heap.size, 2, none⟩ = some (.slice a l.length c) := keep_cell hb1 (keep_alloc (new_cell rfl rfl))
  have b0 : w1.cell? ⟨w.heap.size + 1, 0, none⟩ = some (.bool h) := keep_cell hb1 (new_cell (by rw [World.size_alloc]) rfl)
  have b1 : w1.cell? ⟨w.heap.size + 1, 1, none⟩ = some (.string s) := keep_cell hb1 (new_cell (by rw [World.size_alloc]) rfl)
  clear hb1 KGA
  go_wp2_with fail
  refine (KG.out _ E1.out).mono ?_
  rintro e w2 ⟨rfl, hb2⟩
  have hba : Below w2.heap.size w2 (w2.alloc (.cells #[.bool (clGet l key).1, .string (clGet l key).2] 29)) := (Below.refl _ _).alloc (Nat.le_refl _) _
  have E2 := Lib.hid ((E1.out.below hb2).below hba)
  have B2 := Lib.hid (bw_alloc (o := .cells #[.bool (clGet l key).1, .string (clGet l key).2] 29) (bw_call hb2 B1.out))
  have a0 := keep_cell hba (keep_cell hb2 a0)
  have a1 := keep_cell hba (keep_cell hb2 a1)
  have a2 := keep_cell hba (keep_cell hb2 a2)
  have b0 := keep_cell hba (keep_cell hb2 b0)
  have b1 := keep_cell hba (keep_cell hb2 b1)
  clear hb2 KG hba E1 B1
  generalize (clGet l key).1 = x1 at *
  generalize (clGet l key).2 = x2 at *
  go_upto_region 4 with fail
  generalize w2.alloc (.cells #[.bool x1, .string x2] 29) = w3 at *
  go_wp2_with fail
  refine (KS.out _ E2.out).mono ?_
  rintro e w4 (⟨hz, rfl, hb4⟩ | ⟨hz, _⟩)
  · have hz2 : (setE no g l key h s (g + 1) == 0) = false := by rw [beq_eq_false_iff_ne]; exact hz
    have hba : Below w4.heap.size w4 (w4.alloc (.cells #[.int .i64 0, .int .i64 0, .slice none 0 0] 24)) := (Below.refl _ _).alloc (Nat.le_refl _) _
    have E4 := Lib.hid ((E2.out.below hb4).below hba)
    have B4 := Lib.hid (bw_alloc (o := .cells #[.int .i64 0, .int .i64 0, .slice none 0 0] 24) (bw_call hb4 B2.out))
    clear hb4 a0 a1 a2 b0 b1 KS HE B2 E2
    generalize setE no g l key h s (g + 1) = z at *
    go_wp2_with fail
    refine (KN.out _).mono ?_
    rintro e w5 ⟨rfl, hb5⟩
    have E5 := Lib.hid (E4.out.below hb5)
    have B5 := Lib.hid (bw_call hb5 B4.out)
    clear hb5 KN E4 B4 hba
    rw [show pgSame 0 0 [] 0 0 [] = true by decide]
    go_wp2_with fail
    refine (KAW.out _ E5.out).mono ?_
    rintro e w6 ⟨rfl, hb6⟩
    have B6 := bw_call hb6 B5.out
    clear hb6
    go_wp2
    go_ret
    exact ⟨rfl, B6⟩
  · exact absurd hz HE.out
set_option maxRecDepth 100000 in
set_option maxHeartbeats 4000000 in
theorem pageBack_yes (no g : Int) (a : Option Addr) (l : List (ByteArray × ByteArray)) (c : Nat) (key : ByteArray) (h : Bool) (s : ByteArray) (w : World) (hn : l.length ≤ maxLen) (hlc : l.length ≤ c) (hz : a = none → c = 0) (ha : ClsAt w a l) (ht : Tab w) (hG : clGreat l = false) (hk : (key.size : Int) ≤ 100) (hs : (s.size : Int) ≤ 100) (hg : g ≤ 2305843009213693952) (hg0 : (Lit.int .i64 g).wf = true) (he : setE no g l key h s (g + 1) = 0) :
    Calls Tryd.prog 6 #[.agg #[.int .i64 no, .int .i64 g, .slice a l.length c], .string key, .agg #[.bool h, .string s]] w fun e w' => e = .returned (.bool true) ∧ Below w.heap.size w w' := by
  have hl20 := (clGreat_no hG).1
  have E0 := Lib.hid (PgE.mk (W := w) (b := none) (lb := []) ha (.inl rfl) ht)
  have KGA := Lib.hid (fun W (h : PgE W a l none []) => great_any no g a l c W hn h.ca)
  have KAW := Lib.hid (fun W (h : Tab W) => awake11_any W h)
  have KG := Lib.hid (fun W (h : PgE W a l none []) => get_any no g a l c key W (by omega) h.ca)
  have KS := Lib.hid (fun W (hh : PgE W a l none []) => set_any no g a l c key h s (g + 1) W hn hlc hz hh.ca)
  have hg1 : -9223372036854775808 ≤ g := by
    have h0 : IntKind.i64.min ≤ g ∧ g ≤ IntKind.i64.max := by simpa [Lit.wf] using hg0
    have e : IntKind.i64.min = -9223372036854775808 := by decide
    omega
  have hw : IntKind.i64.wrap (g + 1) = g + 1 := IntWalk.i64_in _ (by omega)
  have hw2 : IntKind.i64.wrap (g + 2) = g + 2 := IntWalk.i64_in _ (by omega)
  have hgs := get_set he
  have hrt := put_right he
  obtain ⟨_, _, _, _, _, hx, _⟩ := setE_ok he
  have hl8 := (pgOk_parts hrt).2.2.2.2.1
  have he2 := set_back_ok he (by omega)
  have hbk := ptL_back (cellsB_parts (pgOk_parts (setE_ok he).1).2.2.2.2.2).1 key h s
  obtain ⟨lq, hlq⟩ : ∃ x, x = ptL l key h s := ⟨_, rfl⟩
  rw [← hlq] at hgs hrt hbk he2 hl8
  have HLQ := Lib.hid hlq
  clear hlq
  have hgs1 : (clGet lq key).1 = h := by rw [hgs]
  have hgs2 : (clGet lq key).2 = s := by rw [hgs]
  have KG2 := Lib.hid (fun aq cq W (hq : ClsAt W aq lq) => get_any no (g + 1) aq lq cq key W (by omega) hq)
  rw [hgs1, hgs2] at KG2
  generalize (clGet l key).1 = x1 at *
  generalize (clGet l key).2 = x2 at *
  have KS2 := Lib.hid (fun aq cq W (hc : lq.length ≤ cq) (hz : aq = none → cq = 0) (hq : ClsAt W aq lq) => set_any no (g + 1) aq lq cq key x1 x2 (g + 1 + 1) W (by unfold maxLen; omega) hc hz hq)
  have KSM := Lib.hid (fun ar cr W (hr : ClsAt W ar l) (hh : ClsAt W a l) => refSame_any no g ar l cr no g a l c W (by omega) hr hh)
  have hps : pgSame no g l no g l = true := by simp [pgSame]
  rw [hps] at KSM
  have hxx : h = true ∨ (h = false ∧ x1 = true) := by
    cases h
    · cases x1
      · exact absurd ⟨rfl, rfl⟩ hx
      · exact .inr ⟨rfl, rfl⟩
    · exact .inl rfl
  have g2 : g + 1 + 1 = g + 2 := by omega
  rw [g2] at KS2 he2
  have HE := Lib.hid he
  have HE2 := Lib.hid he2
  have HBK := Lib.hid hbk
  clear ha ht he he2 hbk hgs hgs1 hgs2 hps hrt hx hl8 g2
  rw [hG] at KGA
  go_enter Tryd.func6, Tryd.ntmps6
  go_wp2_with fail
  refine (KGA.out _ E0.out.alloc.alloc).mono ?_
  rintro e w1 ⟨rfl, hb1⟩
  have E1 := Lib.hid (PgE.below hb1 E0.out.alloc.alloc)
  have B1 := Lib.hid (bw_call hb1 (bw_alloc (bw_alloc (Below.refl _ w))))
  have a0 : w1.cell? ⟨w.heap.size, 0, none⟩ = some (.int .i64 no) := keep_cell hb1 (keep_alloc (new_cell rfl rfl))
  have a1 : w1.cell? ⟨w.heap.size, 1, none⟩ = some (.int .i64 g) := keep_cell hb1 (keep_alloc (new_cell rfl rfl))
  have a2 : w1.cell? ⟨w.heap.size, 2, none⟩ = some (.slice a l.length c) := keep_cell hb1 (keep_alloc (new_cell rfl rfl))
  have b0 : w1.cell? ⟨w.heap.size + 1, 0, none⟩ = some (.bool h) := keep_cell hb1 (new_cell (by rw [World.size_alloc]) rfl)
  have b1 : w1.cell? ⟨w.heap.size + 1, 1, none⟩ = some (.string s) := keep_cell hb1 (new_cell (by rw [World.size_alloc]) rfl)
  clear hb1 KGA E0
  go_wp2_with fail
  refine (KG.out _ E1.out).mono ?_
  rintro e w2 ⟨rfl, hb2⟩
  have hba : Below w2.heap.size w2 (w2.alloc (.cells #[.bool x1, .string x2] 29)) := (Below.refl _ _).alloc (Nat.le_refl _) _
  have E2 := Lib.hid ((E1.out.below hb2).below hba)
  have B2 := Lib.hid (bw_alloc (o := .cells #[.bool x1, .string x2] 29) (bw_call hb2 B1.out))
  have a0 := keep_cell hba (keep_cell hb2 a0)
  have a1 := keep_cell hba (keep_cell hb2 a1)
  have a2 := keep_cell hba (keep_cell hb2 a2)
  have b0 := keep_cell hba (keep_cell hb2 b0)
  have b1 := keep_cell hba (keep_cell hb2 b1)
  have c0 : (w2.alloc (.cells #[.bool x1, .string x2] 29)).cell? ⟨w2.heap.size, 0, none⟩ = some (.bool x1) := new_cell rfl rfl
  have c1 : (w2.alloc (.cells #[.bool x1, .string x2] 29)).cell? ⟨w2.heap.size, 1, none⟩ = some (.string x2) := new_cell rfl rfl
  clear hb2 KG hba E1 B1
  go_upto_region 4 with fail
  generalize w2.alloc (.cells #[.bool x1, .string x2] 29) = w3 at *
  generalize w2.heap.size = PW at *
  go_wp2_with fail
  refine (KS.out _ E2.out).mono ?_
  rintro e w4 (⟨hno, _⟩ | ⟨_, aq, cq, rfl, hr, hb4⟩)
  · exact absurd HE.out hno
  rw [← HLQ.out] at hr ⊢
  obtain ⟨aq', cq', eq', hqa, hqz, hqc⟩ := hr.cls
  injection eq' with eq1 _ eq2
  subst eq1 eq2
  have hba : Below w4.heap.size w4 (w4.alloc (.cells #[.int .i64 no, .int .i64 (g + 1), .slice aq lq.length cq] 24)) := (Below.refl _ _).alloc (Nat.le_refl _) _
  have E4 : Hid (PgE (w4.alloc (.cells #[.int .i64 no, .int .i64 (g + 1), .slice aq lq.length cq] 24)) a l aq lq) := ⟨(E2.out.ca.below hb4).below hba, hqa.below hba, (E2.out.tab.below hb4).below hba⟩
  have B4 := Lib.hid (bw_alloc (o := .cells #[.int .i64 no, .int .i64 (g + 1), .slice aq lq.length cq] 24) (bw_call hb4 B2.out))
  have a0 := keep_cell hba (keep_cell hb4 a0)
  have a1 := keep_cell hba (keep_cell hb4 a1)
  have a2 := keep_cell hba (keep_cell hb4 a2)
  have b0 := keep_cell hba (keep_cell hb4 b0)
  have b1 := keep_cell hba (keep_cell hb4 b1)
  have c0 := keep_cell hba (keep_cell hb4 c0)
  have c1 := keep_cell hba (keep_cell hb4 c1)
  have d0 : (w4.alloc (.cells #[.int .i64 no, .int .i64 (g + 1), .slice aq lq.length cq] 24)).cell? ⟨w4.heap.size, 0, none⟩ = some (.int .i64 no) := new_cell rfl rfl
  have d1 : (w4.alloc (.cells #[.int .i64 no, .int .i64 (g + 1), .slice aq lq.length cq] 24)).cell? ⟨w4.heap.size, 1, none⟩ = some (.int .i64 (g + 1)) := new_cell rfl rfl
  have d2 : (w4.alloc (.cells #[.int .i64 no, .int .i64 (g + 1), .slice aq lq.length cq] 24)).cell? ⟨w4.heap.size, 2, none⟩ = some (.slice aq lq.length cq) := new_cell rfl rfl
  have K2 := Lib.hid (fun W hh => KS2.out aq cq W hqc hqz hh)
  have K3 := Lib.hid (fun W hh => KG2.out aq cq W hh)
  clear hb4 KS hba E2 B2 KS2 KG2 hr hqa hqc hqz HE
  go_upto_region 7 with fail
  generalize w4.alloc (.cells #[.int .i64 no, .int .i64 (g + 1), .slice aq lq.length cq] 24) = w5 at *
  generalize w4.heap.size = PQ at *
  go_wp2_with fail
  refine (K2.out _ E4.out.cb).mono ?_
  rintro e w6 (⟨hno, _⟩ | ⟨_, ar, cr, rfl, hr, hb6⟩)
  · exact absurd HE2.out hno
  rw [HBK.out] at hr ⊢
  have hra := hr.clsAt
  have hby : Below w6.heap.size w6 (w6.alloc (.cells #[.int .i64 no, .int .i64 g, .slice ar l.length cr] 24)) := (Below.refl _ _).alloc (Nat.le_refl _) _
  have E6 : Hid (PgE (w6.alloc (.cells #[.int .i64 no, .int .i64 g, .slice ar l.length cr] 24)) a l aq lq) := (E4.out.below hb6).below hby
  have F6 : Hid (ClsAt (w6.alloc (.cells #[.int .i64 no, .int .i64 g, .slice ar l.length cr] 24)) ar l) := hra.below hby
  have B6 := Lib.hid (bw_alloc (o := .cells #[.int .i64 no, .int .i64 g, .slice ar l.length cr] 24) (bw_call hb6 B4.out))
  have A0 := Lib.hid (keep_cell hby (keep_cell hb6 a0))
  have A1 := Lib.hid (keep_cell hby (keep_cell hb6 a1))
  have A2 := Lib.hid (keep_cell hby (keep_cell hb6 a2))
  have G0 := Lib.hid (keep_cell hby (keep_cell hb6 b0))
  have G1 := Lib.hid (keep_cell hby (keep_cell hb6 b1))
  have D0 := Lib.hid (keep_cell hby (keep_cell hb6 d0))
  have D1 := Lib.hid (keep_cell hby (keep_cell hb6 d1))
  have D2 := Lib.hid (keep_cell hby (keep_cell hb6 d2))
  have r0 : Hid ((w6.alloc (.cells #[.int .i64 no, .int .i64 g, .slice ar l.length cr] 24)).cell? ⟨w6.heap.size, 0, none⟩ = some (.int .i64 no)) := new_cell rfl rfl
  have r1 : Hid ((w6.alloc (.cells #[.int .i64 no, .int .i64 g, .slice ar l.length cr] 24)).cell? ⟨w6.heap.size, 1, none⟩ = some (.int .i64 g)) := new_cell rfl rfl
  have r2 : Hid ((w6.alloc (.cells #[.int .i64 no, .int .i64 g, .slice ar l.length cr] 24)).cell? ⟨w6.heap.size, 2, none⟩ = some (.slice ar l.length cr)) := new_cell rfl rfl
  have z1 := keep_alloc (o := .cells #[.int .i64 no, .int .i64 (g + 2), .slice ar l.length cr] 24) (keep_cell hb6 a1)
  have z2 := keep_alloc (o := .cells #[.int .i64 no, .int .i64 (g + 2), .slice ar l.length cr] 24) (keep_cell hb6 b0)
  have z3 := keep_alloc (o := .cells #[.int .i64 no, .int .i64 (g + 2), .slice ar l.length cr] 24) (keep_cell hb6 c0)
  have K4 := Lib.hid (fun W hh h2 => KSM.out ar cr W hh h2)
  clear hb6 hby hr hra E4 B4 a0 a1 a2 b0 b1 c0 c1 d0 d1 d2 KSM K2 HE2 HBK
  rcases hxx with rfl | ⟨rfl, rfl⟩
  · go_upto_region 11 with fail
    have p0 := A0.out
    have p1 := A1.out
    have p2 := A2.out
    have v0 := G0.out
    have v1 := G1.out
    have q0 := D0.out
    have q1 := D1.out
    have q2 := D2.out
    have t0 := r0.out
    have t1 := r1.out
    have t2 := r2.out
    have e6 := E6.out
    have f6 := F6.out
    clear A0 A1 A2 G0 G1 D0 D1 D2 r0 r1 r2 E6 F6 z1 z2 z3 a0 a1 a2 b0 b1 c0 c1 HLQ
    generalize w6.alloc (.cells #[.int .i64 no, .int .i64 g, .slice ar l.length cr] 24) = w7 at *
    generalize w6.heap.size = PR at *
    obtain ⟨PB, hPB⟩ : ∃ x, x = w.heap.size + 1 := ⟨_, rfl⟩
    rw [← hPB] at v0 v1 ⊢
    clear hPB
    obtain ⟨PA, hPA⟩ : ∃ x, x = w.heap.size := ⟨_, rfl⟩
    rw [← hPA] at p0 p1 p2 ⊢
    clear hPA
    go_region_held3 (fun w' => PgE w' a l aq lq ∧ ClsAt w' ar l ∧ w'.cell? ⟨PA, 0, none⟩ = some (.int .i64 no) ∧ w'.cell? ⟨PA, 1, none⟩ = some (.int .i64 g) ∧ w'.cell? ⟨PA, 2, none⟩ = some (.slice a l.length c) ∧ w'.cell? ⟨PB, 0, none⟩ = some (.bool true) ∧ w'.cell? ⟨PB, 1, none⟩ = some (.string s) ∧ w'.cell? ⟨PQ, 0, none⟩ = some (.int .i64 no) ∧ w'.cell? ⟨PQ, 1, none⟩ = some (.int .i64 (g + 1)) ∧ w'.cell? ⟨PQ, 2, none⟩ = some (.slice aq lq.length cq) ∧ w'.cell? ⟨PR, 0, none⟩ = some (.int .i64 no) ∧ w'.cell? ⟨PR, 1, none⟩ = some (.int .i64 g) ∧ w'.cell? ⟨PR, 2, none⟩ = some (.slice ar l.length cr))
      ((refine ⟨?_, ?_, ?_, ?_, ?_, ?_, ?_, ?_, ?_, ?_, ?_, ?_, ?_⟩ <;> (repeat (first | with_reducible assumption | with_reducible refine keep_alloc ?_ | with_reducible refine keep_drew ?_ | with_reducible refine keep_cell (by assumption) ?_ | with_reducible refine PgE.alloc ?_ | with_reducible refine PgE.drew ?_ | with_reducible refine PgE.below (by assumption) ?_ | with_reducible refine clsAt_drew ?_ | with_reducible refine clsAt_alloc ?_ | with_reducible refine ClsAt.below ?_ (by assumption)))))
      (first
        | (go_at_call 13; refine (K3.out _ ?_).mono ?_; (focus ((repeat (first | with_reducible assumption | with_reducible refine PgE.cb (a := a) (la := l) ?_ | with_reducible refine PgE.drew ?_ | with_reducible refine PgE.below (by assumption) ?_)); done)); rintro x w91 ⟨rfl, hb91⟩)
        | (go_at_call 12; refine (K4.out _ ?_ ?_).mono ?_; (focus ((repeat (first | with_reducible assumption | with_reducible refine clsAt_drew ?_ | with_reducible refine ClsAt.below ?_ (by assumption))); done)); (focus ((repeat (first | with_reducible assumption | with_reducible refine PgE.ca (b := aq) (lb := lq) ?_ | with_reducible refine PgE.drew ?_ | with_reducible refine PgE.below (by assumption) ?_)); done)); rintro x w94 ⟨rfl, hb94⟩)
        | (go_at_call 8; refine (KAW.out _ ?_).mono ?_; (focus ((repeat (first | with_reducible assumption | with_reducible refine PgE.tab (a := a) (la := l) (b := aq) (lb := lq) ?_ | with_reducible refine PgE.drew ?_ | with_reducible refine PgE.below (by assumption) ?_)); done)); rintro x w97 ⟨rfl, hb97⟩))
    all_goals go_wp2
    all_goals go_ret
    all_goals refine ⟨rfl, B6.out.trans (Below.mono ?_ B6.out.size)⟩
    all_goals ((repeat (first | with_reducible exact Below.refl _ _ | with_reducible refine bw_alloc ?_ | with_reducible refine bw_drew ?_ | with_reducible refine bw_call (by assumption) ?_)); done)
  · go_upto_region 11 with fail
    have p0 := A0.out
    have p1 := A1.out
    have p2 := A2.out
    have v0 := G0.out
    have v1 := G1.out
    have q0 := D0.out
    have q1 := D1.out
    have q2 := D2.out
    have t0 := r0.out
    have t1 := r1.out
    have t2 := r2.out
    have e6 := E6.out
    have f6 := F6.out
    clear A0 A1 A2 G0 G1 D0 D1 D2 r0 r1 r2 E6 F6 z1 z2 z3 a0 a1 a2 b0 b1 c0 c1 HLQ
    generalize w6.alloc (.cells #[.int .i64 no, .int .i64 g, .slice ar l.length cr] 24) = w7 at *
    generalize w6.heap.size = PR at *
    obtain ⟨PB, hPB⟩ : ∃ x, x = w.heap.size + 1 := ⟨_, rfl⟩
    rw [← hPB] at v0 v1 ⊢
    clear hPB
    obtain ⟨PA, hPA⟩ : ∃ x, x = w.heap.size := ⟨_, rfl⟩
    rw [← hPA] at p0 p1 p2 ⊢
    clear hPA
    go_region_held3 (fun w' => PgE w' a l aq lq ∧ ClsAt w' ar l ∧ w'.cell? ⟨PA, 0, none⟩ = some (.int .i64 no) ∧ w'.cell? ⟨PA, 1, none⟩ = some (.int .i64 g) ∧ w'.cell? ⟨PA, 2, none⟩ = some (.slice a l.length c) ∧ w'.cell? ⟨PB, 0, none⟩ = some (.bool false) ∧ w'.cell? ⟨PB, 1, none⟩ = some (.string s) ∧ w'.cell? ⟨PQ, 0, none⟩ = some (.int .i64 no) ∧ w'.cell? ⟨PQ, 1, none⟩ = some (.int .i64 (g + 1)) ∧ w'.cell? ⟨PQ, 2, none⟩ = some (.slice aq lq.length cq) ∧ w'.cell? ⟨PR, 0, none⟩ = some (.int .i64 no) ∧ w'.cell? ⟨PR, 1, none⟩ = some (.int .i64 g) ∧ w'.cell? ⟨PR, 2, none⟩ = some (.slice ar l.length cr))
      ((refine ⟨?_, ?_, ?_, ?_, ?_, ?_, ?_, ?_, ?_, ?_, ?_, ?_, ?_⟩ <;> (repeat (first | with_reducible assumption | with_reducible refine keep_alloc ?_ | with_reducible refine keep_drew ?_ | with_reducible refine keep_cell (by assumption) ?_ | with_reducible refine PgE.alloc ?_ | with_reducible refine PgE.drew ?_ | with_reducible refine PgE.below (by assumption) ?_ | with_reducible refine clsAt_drew ?_ | with_reducible refine clsAt_alloc ?_ | with_reducible refine ClsAt.below ?_ (by assumption)))))
      (first
        | (go_at_call 13; refine (K3.out _ ?_).mono ?_; (focus ((repeat (first | with_reducible assumption | with_reducible refine PgE.cb (a := a) (la := l) ?_ | with_reducible refine PgE.drew ?_ | with_reducible refine PgE.below (by assumption) ?_)); done)); rintro x w91 ⟨rfl, hb91⟩)
        | (go_at_call 12; refine (K4.out _ ?_ ?_).mono ?_; (focus ((repeat (first | with_reducible assumption | with_reducible refine clsAt_drew ?_ | with_reducible refine ClsAt.below ?_ (by assumption))); done)); (focus ((repeat (first | with_reducible assumption | with_reducible refine PgE.ca (b := aq) (lb := lq) ?_ | with_reducible refine PgE.drew ?_ | with_reducible refine PgE.below (by assumption) ?_)); done)); rintro x w94 ⟨rfl, hb94⟩)
        | (go_at_call 8; refine (KAW.out _ ?_).mono ?_; (focus ((repeat (first | with_reducible assumption | with_reducible refine PgE.tab (a := a) (la := l) (b := aq) (lb := lq) ?_ | with_reducible refine PgE.drew ?_ | with_reducible refine PgE.below (by assumption) ?_)); done)); rintro x w97 ⟨rfl, hb97⟩))
    all_goals go_wp2
    all_goals go_ret
    all_goals refine ⟨rfl, B6.out.trans (Below.mono ?_ B6.out.size)⟩
    all_goals ((repeat (first | with_reducible exact Below.refl _ _ | with_reducible refine bw_alloc ?_ | with_reducible refine bw_drew ?_ | with_reducible refine bw_call (by assumption) ?_)); done)
theorem pageBack_walk (no g : Int) (a : Option Addr) (l : List (ByteArray × ByteArray)) (c : Nat) (key : ByteArray) (h : Bool) (s : ByteArray) (w : World) (hn : l.length ≤ maxLen) (hlc : l.length ≤ c) (hz : a = none → c = 0) (ha : ClsAt w a l) (hg0 : (Lit.int .i64 g).wf = true) (ht : Tab w) :
    Calls Tryd.prog 6 #[.agg #[.int .i64 no, .int .i64 g, .slice a l.length c], .string key, .agg #[.bool h, .string s]] w fun e w' => e = .returned (.bool true) ∧ Below w.heap.size w w' := by
  by_cases hbad : clGreat l = true ∨ 100 < key.size ∨ 100 < s.size ∨ 2305843009213693952 < g
  · exact pageBack_early no g a l c key h s w hn ha ht hbad
  · have h1 : clGreat l = false := by
      cases q : clGreat l
      · rfl
      · exact absurd (.inl q) hbad
    have h2 : ¬ 100 < key.size := fun q => hbad (.inr (.inl q))
    have h3 : ¬ 100 < s.size := fun q => hbad (.inr (.inr (.inl q)))
    have h4 : ¬ 2305843009213693952 < g := fun q => hbad (.inr (.inr (.inr q)))
    by_cases he : setE no g l key h s (g + 1) = 0
    · exact pageBack_yes no g a l c key h s w hn hlc hz ha ht h1 (by omega) (by omega) (by omega) hg0 he
    · exact pageBack_no no g a l c key h s w hn hlc hz ha ht h1 (by omega) (by omega) (by omega) hg0 he
end Go.Proofs.YtgkpbchpjgkblaaDoor
