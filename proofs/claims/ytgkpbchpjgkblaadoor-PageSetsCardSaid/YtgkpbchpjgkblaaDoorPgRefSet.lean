/-
  THE CONTRACTS OF the reference's Value and Set.
-/
import Derived.Test.YtgkpbchpjgkblaaDoorPgRefPut
import Derived.Test.YtgkpbchpjgkblaaDoorPgRef
namespace Go.Proofs.YtgkpbchpjgkblaaDoor
open Go.RowKit
theorem refVal_any (h : Bool) (s : ByteArray) (w : World) : Calls Tryd.prog 30 #[.agg #[.bool h, .string s]] w fun e w' => e = .returned (.bool (vlOk h s)) ∧ Below w.heap.size w w' := by
  have hb0 : Below w.heap.size w (w.alloc (.cells #[.bool h, .string s] 29)) := (Below.refl _ _).alloc (Nat.le_refl _) _
  cases h with
  | true =>
    by_cases h16 : s.size ≤ 16
    · have HX : Hid (vlOk true s = true) := by rw [Hid, vl_true]; exact decide_eq_true h16
      have h16 : (s.size : Int) ≤ 16 := by omega
      go_enter Tryd.func30, Tryd.ntmps30
      go_wp2
      go_ret
      exact ⟨ret_bool HX.out.symm, hb0⟩
    · have HX : Hid (vlOk true s = false) := by rw [Hid, vl_true]; exact decide_eq_false h16
      have h16 : (16 : Int) < (s.size : Int) := by omega
      go_enter Tryd.func30, Tryd.ntmps30
      go_wp2
      go_ret
      exact ⟨ret_bool HX.out.symm, hb0⟩
  | false =>
    by_cases he : s = ⟨#[]⟩
    · have HX : Hid (vlOk false s = true) := by
        rw [Hid, he]
        unfold vlOk
        rw [ByteArray.toList_eq]; rfl
      subst he
      go_enter Tryd.func30, Tryd.ntmps30
      go_wp2
      go_ret
      exact ⟨ret_bool HX.out.symm, hb0⟩
    · have HX : Hid (vlOk false s = false) := by
        rw [Hid]
        cases q : vlOk false s
        · rfl
        · exact absurd (vl_false q) he
      have f1 := ba_neL he
      have f2 := ba_neL' he
      have hie : s.toList.isEmpty = false := by
        cases q : s.toList with
        | nil => exact absurd (by rw [q, ByteArray.toList_eq]) f2
        | cons _ _ => rfl
      clear he
      by_cases h16 : s.size ≤ 16
      · have h16 : (s.size : Int) ≤ 16 := by omega
        have HI := Lib.hid hie
        clear hie
        go_enter Tryd.func30, Tryd.ntmps30
        go_wp2
        go_ret
        exact ⟨ret_bool (HI.out.trans HX.out.symm), hb0⟩
      · have h16 : (16 : Int) < (s.size : Int) := by omega
        go_enter Tryd.func30, Tryd.ntmps30
        go_wp2
        go_ret
        exact ⟨ret_bool HX.out.symm, hb0⟩
section
variable (no gsn : Int) (a : Option Addr) (l : List (ByteArray × ByteArray)) (c : Nat) (key : ByteArray) (h : Bool) (s : ByteArray) (g : Int) (w : World)
set_option maxRecDepth 100000 in
set_option maxHeartbeats 4000000 in
theorem refSet_bad (hn : l.length ≤ 1000000) (ha : ClsAt w a l) (hbad : pgOk no gsn l = false ∨ kyOk key = false ∨ vlOk h s = false ∨ g ≤ gsn ∨ 4611686018427387903 < g) :
    Calls Tryd.prog 16 #[.agg #[.int .i64 no, .int .i64 gsn, .slice a l.length c], .string key, .agg #[.bool h, .string s], .int .i64 g] w (SetNo w 1) := by
  have G0 := setIn_ok w no gsn a l.length c h s
  have KG := Lib.hid (refGet_any no gsn a l c key _ hn (ha.below G0.bw))
  have KR := Lib.hid (fun W (hb : Below w.heap.size w W) => refRight_any no gsn a l c W (by unfold maxLen; omega) (ha.below hb))
  have KK := Lib.hid (fun W => refKey_any key W)
  have KV := Lib.hid (fun W => refVal_any h s W)
  have HS0 := Lib.hid G0
  clear ha G0
  generalize (clGet l key).1 = x1 at *
  generalize (clGet l key).2 = x2 at *
  have hfd : ∀ W : World, (Instr.field 29 (.agg #[.bool x1, .string x2]) 0).run Tryd.prog W = .ok (.bool x1) W := fun _ => by kernel_rfl
  have hq : pgOk no gsn l = false ∨ (pgOk no gsn l = true ∧ kyOk key = false) ∨ (pgOk no gsn l = true ∧ kyOk key = true ∧ vlOk h s = false) ∨ (pgOk no gsn l = true ∧ kyOk key = true ∧ vlOk h s = true ∧ g ≤ gsn) ∨ (pgOk no gsn l = true ∧ kyOk key = true ∧ vlOk h s = true ∧ gsn < g ∧ 4611686018427387904 ≤ g) := by
    cases q1 : pgOk no gsn l
    · exact .inl rfl
    · cases q2 : kyOk key
      · exact .inr (.inl ⟨rfl, rfl⟩)
      · cases q3 : vlOk h s
        · exact .inr (.inr (.inl ⟨rfl, rfl, rfl⟩))
        · by_cases q4 : g ≤ gsn
          · exact .inr (.inr (.inr (.inl ⟨rfl, rfl, rfl, q4⟩)))
          · refine .inr (.inr (.inr (.inr ⟨rfl, rfl, rfl, by omega, ?_⟩)))
            rcases hbad with x | x | x | x | x
            · rw [q1] at x; cases x
            · rw [q2] at x; cases x
            · rw [q3] at x; cases x
            · exact absurd x q4
            · omega
  clear hbad
  rcases hq with q1 | ⟨q1, q2⟩ | ⟨q1, q2, q3⟩ | ⟨q1, q2, q3, q4⟩ | ⟨q1, q2, q3, q4, q5⟩
  all_goals
    rw [q1] at KR
    try rw [q2] at KK
    try rw [q3] at KV
    clear q1
    try clear q2
    try clear q3
    go_enter Tryd.func16, Tryd.ntmps16
    go_wp2_with fail
    refine KG.out.mono ?_
    rintro e w5 ⟨rfl, hb5⟩
    have S5 := HS0.out.below hb5
    clear hb5 KG
    have p0 := S5.p0
    have p1 := S5.p1
    have p2 := S5.p2
    have K2 := Lib.hid (KR.out _ S5.bw)
    have HS5 := Lib.hid S5
    clear S5 KR
    go_wp2_with fail
    refine K2.out.mono ?_
    rintro e w6 ⟨rfl, hb6⟩
    have S6 := HS5.out.below hb6
    clear hb6 K2 HS5 p0 p1 p2
    obtain ⟨p0, p1, p2, v0, v1, r0, r1, r2, rf, bw⟩ := S6
    have HS6 : Hid (SetW w w6 no gsn a l.length c h s) := ⟨p0, p1, p2, v0, v1, r0, r1, r2, rf, bw⟩
    clear r0 r1 r2 rf bw
  · clear p0 p1 p2 v0 v1
    obtain ⟨p0, p1, p2, v0, v1, r0, r1, r2, rf, bw⟩ := HS6.out
    go_wp2
    obtain ⟨X, hX, y0, y1, y2, hbX, _⟩ := set3 (v0 := .int .i64 0) (v1 := .int .i64 0) (v2 := .slice none 0 0) bw (by omega) r0 r1 r2
    rw [← hX]
    refine bodyPost_ret (v := .tuple #[.agg #[.int .i64 0, .int .i64 0, .slice none 0 0], .int .i64 1]) ?_ rfl ⟨rfl, hbX⟩
    simp [results, Tryd.results16, go_sem, y0, y1, y2]
  · go_wp2_with fail
    refine (KK.out _).mono ?_
    rintro e w7 ⟨rfl, rfl⟩
    clear p0 p1 p2 v0 v1
    obtain ⟨p0, p1, p2, v0, v1, r0, r1, r2, rf, bw⟩ := HS6.out
    go_wp2
    obtain ⟨X, hX, y0, y1, y2, hbX, _⟩ := set3 (v0 := .int .i64 0) (v1 := .int .i64 0) (v2 := .slice none 0 0) bw (by omega) r0 r1 r2
    rw [← hX]
    refine bodyPost_ret (v := .tuple #[.agg #[.int .i64 0, .int .i64 0, .slice none 0 0], .int .i64 1]) ?_ rfl ⟨rfl, hbX⟩
    simp [results, Tryd.results16, go_sem, y0, y1, y2]
  · go_wp2_with fail
    refine (KK.out _).mono ?_
    rintro e w7 ⟨rfl, rfl⟩
    go_wp2_with fail
    refine (KV.out _).mono ?_
    rintro e w8 ⟨rfl, hb8⟩
    have S8 := HS6.out.below hb8
    clear hb8
    clear p0 p1 p2 v0 v1
    obtain ⟨p0, p1, p2, v0, v1, r0, r1, r2, rf, bw⟩ := S8
    go_wp2
    obtain ⟨X, hX, y0, y1, y2, hbX, _⟩ := set3 (v0 := .int .i64 0) (v1 := .int .i64 0) (v2 := .slice none 0 0) bw (by omega) r0 r1 r2
    rw [← hX]
    refine bodyPost_ret (v := .tuple #[.agg #[.int .i64 0, .int .i64 0, .slice none 0 0], .int .i64 1]) ?_ rfl ⟨rfl, hbX⟩
    simp [results, Tryd.results16, go_sem, y0, y1, y2]
  · go_wp2_with fail
    refine (KK.out _).mono ?_
    rintro e w7 ⟨rfl, rfl⟩
    go_wp2_with fail
    refine (KV.out _).mono ?_
    rintro e w8 ⟨rfl, hb8⟩
    have S8 := HS6.out.below hb8
    clear hb8
    clear p0 p1 p2 v0 v1
    obtain ⟨p0, p1, p2, v0, v1, r0, r1, r2, rf, bw⟩ := S8
    go_wp2
    obtain ⟨X, hX, y0, y1, y2, hbX, _⟩ := set3 (v0 := .int .i64 0) (v1 := .int .i64 0) (v2 := .slice none 0 0) bw (by omega) r0 r1 r2
    rw [← hX]
    refine bodyPost_ret (v := .tuple #[.agg #[.int .i64 0, .int .i64 0, .slice none 0 0], .int .i64 1]) ?_ rfl ⟨rfl, hbX⟩
    simp [results, Tryd.results16, go_sem, y0, y1, y2]
  · go_wp2_with fail
    refine (KK.out _).mono ?_
    rintro e w7 ⟨rfl, rfl⟩
    go_wp2_with fail
    refine (KV.out _).mono ?_
    rintro e w8 ⟨rfl, hb8⟩
    have S8 := HS6.out.below hb8
    clear hb8
    clear p0 p1 p2 v0 v1
    obtain ⟨p0, p1, p2, v0, v1, r0, r1, r2, rf, bw⟩ := S8
    go_wp2
    obtain ⟨X, hX, y0, y1, y2, hbX, _⟩ := set3 (v0 := .int .i64 0) (v1 := .int .i64 0) (v2 := .slice none 0 0) bw (by omega) r0 r1 r2
    rw [← hX]
    refine bodyPost_ret (v := .tuple #[.agg #[.int .i64 0, .int .i64 0, .slice none 0 0], .int .i64 1]) ?_ rfl ⟨rfl, hbX⟩
    simp [results, Tryd.results16, go_sem, y0, y1, y2]
set_option maxRecDepth 100000 in
set_option maxHeartbeats 4000000 in
theorem refSet_good (hn : l.length ≤ 8) (hu : UpL l) (ha : ClsAt w a l) (q1 : pgOk no gsn l = true) (q2 : kyOk key = true) (q3 : vlOk h s = true) (hg : gsn < g) (hg2 : g < 4611686018427387904) (hno : ¬ (pgOk no gsn l = false ∨ kyOk key = false ∨ vlOk h s = false ∨ g ≤ gsn ∨ 4611686018427387903 < g)) :
    Calls Tryd.prog 16 #[.agg #[.int .i64 no, .int .i64 gsn, .slice a l.length c], .string key, .agg #[.bool h, .string s], .int .i64 g] w (SetAns no gsn l key h s g w) := by
  have G0 := setIn_ok w no gsn a l.length c h s
  have KG := Lib.hid (refGet_any no gsn a l c key _ (by omega) (ha.below G0.bw))
  have KR := Lib.hid (fun W (hb : Below w.heap.size w W) => refRight_any no gsn a l c W (by unfold maxLen; omega) (ha.below hb))
  have KK := Lib.hid (fun W => refKey_any key W)
  have KV := Lib.hid (fun W => refVal_any h s W)
  have KP := Lib.hid (fun W (hb : Below w.heap.size w W) => refPut_any no gsn a l c key h s g W hn hu (ha.below hb))
  have HS0 := Lib.hid G0
  clear ha G0 hu
  rw [q1] at KR
  rw [q2] at KK
  rw [q3] at KV
  have HN9 := Lib.hid hno
  have hcase : (h = false ∧ (clGet l key).1 = false) ∨ (h = true ∧ (clGet l key).1 = false ∧ l.length = 8) ∨ (h = false ∧ (clGet l key).1 = true) ∨ (h = true ∧ (clGet l key).1 = true) ∨ (h = true ∧ (clGet l key).1 = false ∧ l.length ≠ 8) := by
    cases h <;> cases (clGet l key).1 <;> simp
    omega
  have HEQ : Hid (setE no gsn l key h s g = if h = false ∧ (clGet l key).1 = false then 7 else if h = true ∧ (clGet l key).1 = false ∧ l.length = 8 then 4 else 0) := by
    show setE no gsn l key h s g = _
    unfold setE
    rw [if_neg hno]
  clear hno q1 q2 q3
  generalize (clGet l key).1 = x1 at *
  generalize (clGet l key).2 = x2 at *
  have hfd : ∀ W : World, (Instr.field 29 (.agg #[.bool x1, .string x2]) 0).run Tryd.prog W = .ok (.bool x1) W := fun _ => by kernel_rfl
  rcases hcase with ⟨rfl, rfl⟩ | ⟨rfl, rfl, h8⟩ | ⟨rfl, rfl⟩ | ⟨rfl, rfl⟩ | ⟨rfl, rfl, h8⟩
  all_goals
    try have H8 := Lib.hid h8
    try clear h8
    go_enter Tryd.func16, Tryd.ntmps16
    go_wp2_with fail
    refine KG.out.mono ?_
    rintro e w5 ⟨rfl, hb5⟩
    have S5 := HS0.out.below hb5
    clear hb5 KG
    have p0 := S5.p0
    have p1 := S5.p1
    have p2 := S5.p2
    have K2 := Lib.hid (KR.out _ S5.bw)
    have HS5 := Lib.hid S5
    clear S5 KR
    go_wp2_with fail
    refine K2.out.mono ?_
    rintro e w6 ⟨rfl, hb6⟩
    have S6 := HS5.out.below hb6
    clear hb6 K2 HS5 p0 p1 p2
    obtain ⟨p0, p1, p2, v0, v1, r0, r1, r2, rf, bw⟩ := S6
    have HS6 : Hid (SetW w w6 no gsn a l.length c _ s) := ⟨p0, p1, p2, v0, v1, r0, r1, r2, rf, bw⟩
    clear r0 r1 r2 rf bw
    go_wp2_with fail
    refine (KK.out _).mono ?_
    rintro e w7 ⟨rfl, rfl⟩
    go_wp2_with fail
    refine (KV.out _).mono ?_
    rintro e w8 ⟨rfl, hb8⟩
    have S8 := HS6.out.below hb8
    clear hb8
    clear p0 p1 p2 v0 v1
  · have hez : setE no gsn l key false s g = 7 := by rw [HEQ.out]; simp
    have HEZ := Lib.hid hez
    clear hez HEQ KP
    obtain ⟨p0, p1, p2, v0, v1, r0, r1, r2, rf, bw⟩ := S8
    go_wp2
    obtain ⟨X, hX, y0, y1, y2, hbX, _⟩ := set3 (v0 := .int .i64 0) (v1 := .int .i64 0) (v2 := .slice none 0 0) bw (by omega) r0 r1 r2
    rw [← hX]
    refine bodyPost_ret (v := .tuple #[.agg #[.int .i64 0, .int .i64 0, .slice none 0 0], .int .i64 7]) ?_ rfl (.inl ⟨by rw [HEZ.out]; decide, by rw [HEZ.out], hbX⟩)
    simp [results, Tryd.results16, go_sem, y0, y1, y2]
  · have h8 := H8.out
    have hez : setE no gsn l key true s g = 4 := by rw [HEQ.out]; simp [h8]
    have HEZ := Lib.hid hez
    rw [h8] at S8 ⊢
    clear h8
    clear hez HEQ KP
    obtain ⟨p0, p1, p2, v0, v1, r0, r1, r2, rf, bw⟩ := S8
    go_wp2
    obtain ⟨X, hX, y0, y1, y2, hbX, _⟩ := set3 (v0 := .int .i64 0) (v1 := .int .i64 0) (v2 := .slice none 0 0) bw (by omega) r0 r1 r2
    rw [← hX]
    refine bodyPost_ret (v := .tuple #[.agg #[.int .i64 0, .int .i64 0, .slice none 0 0], .int .i64 4]) ?_ rfl (.inl ⟨by rw [HEZ.out]; decide, by rw [HEZ.out], hbX⟩)
    simp [results, Tryd.results16, go_sem, y0, y1, y2]
  · obtain ⟨p0, p1, p2, v0, v1, r0, r1, r2, rf, bw⟩ := S8
    have hez : setE no gsn l key false s g = 0 := by rw [HEQ.out]; simp
    have K9 := Lib.hid (KP.out w8 bw)
    have HBW := Lib.hid bw
    have HSW : Hid (SetW w w8 no gsn a l.length c false s) := ⟨p0, p1, p2, v0, v1, r0, r1, r2, rf, bw⟩
    have HEZ := Lib.hid hez
    have h88 : (l.length : Int) ≤ 8 := by omega
    clear KP r0 r1 r2 rf bw hez HEQ
    go_wp2_with fail
    refine K9.out.mono ?_
    rintro e w9 ⟨av, cv, rfl, hr, hb9⟩
    have S9 := HSW.out.below hb9
    have HR := Lib.hid hr
    have hlt : w.heap.size + 1 + 1 < w8.heap.size := block_lt HSW.out.r0
    have HLT := Lib.hid hlt
    clear hr hlt hb9 K9 HSW p0 p1 p2 v0 v1
    obtain ⟨p0, p1, p2, v0, v1, r0, r1, r2, rf, bw⟩ := S9
    go_wp2
    obtain ⟨X, hX, y0, y1, y2, hbX, hgX⟩ := set3 (v0 := .int .i64 no) (v1 := .int .i64 g) (v2 := .slice av (ptL l key false s).length cv) bw (by omega) r0 r1 r2
    rw [← hX]
    refine bodyPost_ret (v := .tuple #[.agg #[.int .i64 no, .int .i64 g, .slice av (ptL l key false s).length cv], .int .i64 0]) ?_ rfl (.inr ⟨HEZ.out, av, cv, rfl, (HR.out.fr hgX HLT.out).base (by have := HLT.out; omega), hbX⟩)
    simp [results, Tryd.results16, go_sem, y0, y1, y2]
  · obtain ⟨p0, p1, p2, v0, v1, r0, r1, r2, rf, bw⟩ := S8
    have hez : setE no gsn l key true s g = 0 := by rw [HEQ.out]; simp
    have K9 := Lib.hid (KP.out w8 bw)
    have HBW := Lib.hid bw
    have HSW : Hid (SetW w w8 no gsn a l.length c true s) := ⟨p0, p1, p2, v0, v1, r0, r1, r2, rf, bw⟩
    have HEZ := Lib.hid hez
    have h88 : (l.length : Int) ≤ 8 := by omega
    clear KP r0 r1 r2 rf bw hez HEQ
    go_wp2_with fail
    refine K9.out.mono ?_
    rintro e w9 ⟨av, cv, rfl, hr, hb9⟩
    have S9 := HSW.out.below hb9
    have HR := Lib.hid hr
    have hlt : w.heap.size + 1 + 1 < w8.heap.size := block_lt HSW.out.r0
    have HLT := Lib.hid hlt
    clear hr hlt hb9 K9 HSW p0 p1 p2 v0 v1
    obtain ⟨p0, p1, p2, v0, v1, r0, r1, r2, rf, bw⟩ := S9
    go_wp2
    obtain ⟨X, hX, y0, y1, y2, hbX, hgX⟩ := set3 (v0 := .int .i64 no) (v1 := .int .i64 g) (v2 := .slice av (ptL l key true s).length cv) bw (by omega) r0 r1 r2
    rw [← hX]
    refine bodyPost_ret (v := .tuple #[.agg #[.int .i64 no, .int .i64 g, .slice av (ptL l key true s).length cv], .int .i64 0]) ?_ rfl (.inr ⟨HEZ.out, av, cv, rfl, (HR.out.fr hgX HLT.out).base (by have := HLT.out; omega), hbX⟩)
    simp [results, Tryd.results16, go_sem, y0, y1, y2]
  · have h8 := H8.out
    have h8i : ¬ (l.length : Int) = 8 := by omega
    have h8b : ((l.length : Int) == 8) = false := by rw [beq_eq_false_iff_ne]; exact h8i
    obtain ⟨p0, p1, p2, v0, v1, r0, r1, r2, rf, bw⟩ := S8
    have hez : setE no gsn l key true s g = 0 := by rw [HEQ.out]; simp [h8]
    have K9 := Lib.hid (KP.out w8 bw)
    have HBW := Lib.hid bw
    have HSW : Hid (SetW w w8 no gsn a l.length c true s) := ⟨p0, p1, p2, v0, v1, r0, r1, r2, rf, bw⟩
    have HEZ := Lib.hid hez
    have h88 : (l.length : Int) ≤ 8 := by omega
    clear KP r0 r1 r2 rf bw hez HEQ
    go_wp2_with fail
    refine K9.out.mono ?_
    rintro e w9 ⟨av, cv, rfl, hr, hb9⟩
    have S9 := HSW.out.below hb9
    have HR := Lib.hid hr
    have hlt : w.heap.size + 1 + 1 < w8.heap.size := block_lt HSW.out.r0
    have HLT := Lib.hid hlt
    clear hr hlt hb9 K9 HSW p0 p1 p2 v0 v1
    obtain ⟨p0, p1, p2, v0, v1, r0, r1, r2, rf, bw⟩ := S9
    go_wp2
    obtain ⟨X, hX, y0, y1, y2, hbX, hgX⟩ := set3 (v0 := .int .i64 no) (v1 := .int .i64 g) (v2 := .slice av (ptL l key true s).length cv) bw (by omega) r0 r1 r2
    rw [← hX]
    refine bodyPost_ret (v := .tuple #[.agg #[.int .i64 no, .int .i64 g, .slice av (ptL l key true s).length cv], .int .i64 0]) ?_ rfl (.inr ⟨HEZ.out, av, cv, rfl, (HR.out.fr hgX HLT.out).base (by have := HLT.out; omega), hbX⟩)
    simp [results, Tryd.results16, go_sem, y0, y1, y2]
theorem refSet_any (hn : l.length ≤ 1000000) (ha : ClsAt w a l) :
    Calls Tryd.prog 16 #[.agg #[.int .i64 no, .int .i64 gsn, .slice a l.length c], .string key, .agg #[.bool h, .string s], .int .i64 g] w (SetAns no gsn l key h s g w) := by
  by_cases hb : pgOk no gsn l = false ∨ kyOk key = false ∨ vlOk h s = false ∨ g ≤ gsn ∨ 4611686018427387903 < g
  · have he := setE_bad (h := h) (s := s) hb
    refine (refSet_bad no gsn a l c key h s g w hn ha hb).mono ?_
    rintro e w' ⟨rfl, hb⟩
    exact .inl ⟨by rw [he]; decide, by rw [he], hb⟩
  · have h1 : pgOk no gsn l = true := by
      cases q : pgOk no gsn l
      · exact absurd (.inl q) hb
      · rfl
    have h2 : kyOk key = true := by
      cases q : kyOk key
      · exact absurd (.inr (.inl q)) hb
      · rfl
    have h3 : vlOk h s = true := by
      cases q : vlOk h s
      · exact absurd (.inr (.inr (.inl q))) hb
      · rfl
    have h4 : ¬ g ≤ gsn := fun q => hb (.inr (.inr (.inr (.inl q))))
    have h5 : ¬ 4611686018427387903 < g := fun q => hb (.inr (.inr (.inr (.inr q))))
    obtain ⟨hu, _⟩ := cellsB_parts (pgOk_parts h1).2.2.2.2.2
    exact refSet_good no gsn a l c key h s g w (pgOk_parts h1).2.2.2.2.1 hu ha h1 h2 h3 (by omega) (by omega) hb
end
end Go.Proofs.YtgkpbchpjgkblaaDoor
