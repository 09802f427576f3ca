/-
  THE CONTRACT OF twice's Page and Pages: what a page's sectors hold.
-/
import Derived.Test.YtkemhkmabbladaaGreatDoorTwStore
import Derived.Test.YtkemhkmabbladaaGreatDoorTwTextO
namespace Go.Proofs.YtkemhkmabbladaaGreatDoor
open Go.RowKit
/-- What a page's sectors hold; none: it can't be. -/
def pgAt (t : ByteArray) (k : Nat) : Option (Nat × List (ByteArray × ByteArray)) :=
  if allZ t = true then some (0, []) else match readOf t with
  | some (no, g, l) => if no = k then some (g, l) else none
  | none => none
/-- What Page answers. -/
def PgAns (W : World) (k : Nat) (o : Option (Nat × List (ByteArray × ByteArray))) (x : Ending) (w' : World) : Prop :=
  match o with
  | none => x = .returned (.tuple #[.agg #[.int .i64 0, .int .i64 0, .slice none 0 0], .int .i64 9]) ∧ Below W.heap.size W w'
  | some (g, l) => ∃ a c, x = .returned (.tuple #[.agg #[.int .i64 (k : Int), .int .i64 (g : Int), .slice a l.length c], .int .i64 0]) ∧ RowC w' W.heap.size (.slice a l.length c) l ∧ Below W.heap.size W w'
def Pg0 (W : World) (e : Int) (x : Ending) (w' : World) : Prop := x = .returned (.tuple #[.agg #[.int .i64 0, .int .i64 0, .slice none 0 0], .int .i64 e]) ∧ Below W.heap.size W w'
section
variable {w W : World} {D P L M n B T pages : Nat} {s : Ds}
theorem page_nil (no : Int) (W : World) : Calls Tryz.prog 11 #[.pointer none, .int .i64 no] W (Pg0 W 1) := by
  have HR0 := Lib.hid (tkR_new W 36)
  go_enter Tryz.func11, Tryz.ntmps11
  go_upto_region 1 with fail
  generalize W.alloc (.cells #[.int .i64 0, .int .i64 0, .slice none 0 0] 36) = X0 at *
  obtain ⟨r0, r1, r2, rf, bw⟩ := HR0.out
  go_wp2
  obtain ⟨X, hX, x0, x1, x2, hbX, _⟩ := set3 (v0 := .int .i64 0) (v1 := .int .i64 0) (v2 := .slice none 0 0) bw (Nat.le_refl _) r0 r1 r2
  rw [← hX]
  refine bodyPost_ret (v := .tuple #[.agg #[.int .i64 0, .int .i64 0, .slice none 0 0], .int .i64 1]) ?_ rfl ⟨rfl, hbX⟩
  simp [results, Tryz.results11, go_sem, x0, x1, x2]
/-- No such page. -/
theorem page_out (h : TwS w W D P L M n B T pages s) (no : Int) (hno : no < 0 ∨ (pages : Int) ≤ no) : Calls Tryz.prog 11 #[.pointer (some ⟨T, 0, none⟩), .int .i64 no] W (Pg0 W 7) := by
  have HR0 := Lib.hid (tkR_new W 36)
  have ht := (h.below ((Below.refl W.heap.size W).alloc (Nat.le_refl _) (.cells #[.int .i64 0, .int .i64 0, .slice none 0 0] 36))).t1
  clear h
  go_enter Tryz.func11, Tryz.ntmps11
  go_upto_region 1 with fail
  generalize W.alloc (.cells #[.int .i64 0, .int .i64 0, .slice none 0 0] 36) = X0 at *
  obtain ⟨r0, r1, r2, rf, bw⟩ := HR0.out
  by_cases h0 : no < 0
  · clear hno
    go_wp2
    obtain ⟨X, hX, x0, x1, x2, hbX, _⟩ := set3 (v0 := .int .i64 0) (v1 := .int .i64 0) (v2 := .slice none 0 0) bw (Nat.le_refl _) r0 r1 r2
    rw [← hX]
    refine bodyPost_ret (v := .tuple #[.agg #[.int .i64 0, .int .i64 0, .slice none 0 0], .int .i64 7]) ?_ rfl ⟨rfl, hbX⟩
    simp [results, Tryz.results11, go_sem, x0, x1, x2]
  · have h1 : (pages : Int) ≤ no := by omega
    have h2 : 0 ≤ no := by omega
    clear hno
    go_wp2
    obtain ⟨X, hX, x0, x1, x2, hbX, _⟩ := set3 (v0 := .int .i64 0) (v1 := .int .i64 0) (v2 := .slice none 0 0) bw (Nat.le_refl _) r0 r1 r2
    rw [← hX]
    refine bodyPost_ret (v := .tuple #[.agg #[.int .i64 0, .int .i64 0, .slice none 0 0], .int .i64 7]) ?_ rfl ⟨rfl, hbX⟩
    simp [results, Tryz.results11, go_sem, x0, x1, x2]
/-- The power is off. -/
theorem page_off (h : TwS w W D P L M n B T pages s) (ho : s.pm = .off) (hn : n ≤ 4096) (hfit : 5 + 4 * pages ≤ n) (k : Nat) (hk : k < pages) : Calls Tryz.prog 11 #[.pointer (some ⟨T, 0, none⟩), .int .i64 (k : Int)] W (Pg0 W 6) := by
  have hba := (Below.refl W.heap.size W).alloc (Nat.le_refl _) (.cells #[.int .i64 0, .int .i64 0, .slice none 0 0] 36)
  have HR0 := Lib.hid (tkR_new W 36)
  have S0 := Lib.hid (h.below hba)
  have ht := S0.out.t1
  have KP := Lib.hid (fun W => place_big k (by omega) W)
  have KT := Lib.hid (text_off S0.out ho (place k) (by unfold place; omega) hn)
  have k0 : (0 : Int) ≤ (k : Int) := by omega
  have k1 : (k : Int) < (pages : Int) := by omega
  clear h hba hfit hk
  generalize place k = pl at *
  go_enter Tryz.func11, Tryz.ntmps11
  go_upto_region 1 with fail
  generalize W.alloc (.cells #[.int .i64 0, .int .i64 0, .slice none 0 0] 36) = X0 at *
  go_wp2_with fail
  refine (KP.out _).mono ?_
  rintro x w1 ⟨rfl, rfl⟩
  go_wp2_with fail
  refine KT.out.mono ?_
  rintro x w2 ⟨rfl, hb2⟩
  obtain ⟨r0, r1, r2, rf, bw⟩ := HR0.out.below hb2
  clear hb2 HR0 KT KP S0 ht
  go_wp2
  obtain ⟨X, hX, x0, x1, x2, hbX, _⟩ := set3 (v0 := .int .i64 0) (v1 := .int .i64 0) (v2 := .slice none 0 0) bw (Nat.le_refl _) r0 r1 r2
  rw [← hX]
  refine bodyPost_ret (v := .tuple #[.agg #[.int .i64 0, .int .i64 0, .slice none 0 0], .int .i64 6]) ?_ rfl ⟨rfl, hbX⟩
  simp [results, Tryz.results11, go_sem, x0, x1, x2]
set_option maxRecDepth 100000 in
set_option maxHeartbeats 4000000 in
/-- A page that is there, the power being on. -/
theorem page_s (h : TwS w W D P L M n B T pages s) (hon : s.pm ≠ .off) (hn : n ≤ 4096) (hfit : 5 + 4 * pages ≤ n) (k : Nat) (hk : k < pages) : Calls Tryz.prog 11 #[.pointer (some ⟨T, 0, none⟩), .int .i64 (k : Int)] W (PgAns W k (pgAt (txt4 (vw s) (place k)) k)) := by
  have hba := (Below.refl W.heap.size W).alloc (Nat.le_refl _) (.cells #[.int .i64 0, .int .i64 0, .slice none 0 0] 36)
  have HR0 := Lib.hid (tkR_new W 36)
  have S0 := Lib.hid (h.below hba)
  have ht := S0.out.t1
  have KP := Lib.hid (fun W => place_big k (by omega) W)
  have KT := Lib.hid (text_s S0.out hon (place k) (by unfold place; omega) hn)
  have k0 : (0 : Int) ≤ (k : Int) := by omega
  have k1 : (k : Int) < (pages : Int) := by omega
  have hsz : (txt4 (vw s) (place k)).size ≤ 100000 := by
    have e : ∀ j, j < n → (vw s j).length = 64 := h.d.vlen
    unfold txt4 place
    rw [bstr_size, List.length_append, List.length_append, List.length_append, e _ (by omega), e _ (by omega), e _ (by omega), e _ (by omega)]
    omega
  have HT0 := Lib.hid S0.out.tabW
  clear h hba hfit hk
  generalize txt4 (vw s) (place k) = t at *
  have KB := Lib.hid (fun W => blank_any t hsz W)
  have KR := Lib.hid (fun W hT => read_any t W (by omega) hT)
  clear hsz
  generalize place k = pl at *
  cases hz : allZ t with
  | true =>
    have HO : pgAt t k = some (0, []) := by unfold pgAt; rw [if_pos hz]
    rw [HO]
    rw [hz] at KB
    clear hz HO KR
    go_enter Tryz.func11, Tryz.ntmps11
    go_upto_region 1 with fail
    generalize W.alloc (.cells #[.int .i64 0, .int .i64 0, .slice none 0 0] 36) = X0 at *
    go_wp2_with fail
    refine (KP.out _).mono ?_
    rintro x w1 ⟨rfl, rfl⟩
    go_wp2_with fail
    refine KT.out.mono ?_
    rintro x w2 ⟨rfl, hb2⟩
    have HR2 := Lib.hid (HR0.out.below hb2)
    clear hb2 HR0 KT KP S0 ht
    go_wp2_with fail
    refine (KB.out _).mono ?_
    rintro x w3 ⟨rfl, hb3⟩
    obtain ⟨r0, r1, r2, rf, bw⟩ := HR2.out.below hb3
    clear hb3 HR2 KB
    go_wp2
    obtain ⟨X, hX, x0, x1, x2, hbX, _⟩ := set3 (v0 := .int .i64 (k : Int)) (v1 := .int .i64 0) (v2 := .slice none 0 0) bw (Nat.le_refl _) r0 r1 r2
    rw [← hX]
    refine bodyPost_ret (v := .tuple #[.agg #[.int .i64 (k : Int), .int .i64 0, .slice none 0 0], .int .i64 0]) ?_ rfl ⟨none, 0, rfl, World.ownsRow_nil X _ _ _, hbX⟩
    simp [results, Tryz.results11, go_sem, x0, x1, x2]
  | false =>
    rw [hz] at KB
    cases hr : readOf t with
    | none =>
      have HO : pgAt t k = none := by unfold pgAt; rw [if_neg (by rw [hz]; decide), hr]
      rw [HO]
      rw [hr] at KR
      clear hz hr HO
      go_enter Tryz.func11, Tryz.ntmps11
      go_upto_region 1 with fail
      generalize W.alloc (.cells #[.int .i64 0, .int .i64 0, .slice none 0 0] 36) = X0 at *
      go_wp2_with fail
      refine (KP.out _).mono ?_
      rintro x w1 ⟨rfl, rfl⟩
      go_wp2_with fail
      refine KT.out.mono ?_
      rintro x w2 ⟨rfl, hb2⟩
      have HR2 := Lib.hid (HR0.out.below hb2)
      have HT2 := Lib.hid (HT0.out.below hb2)
      clear hb2 HR0 HT0 KT KP S0 ht
      go_wp2_with fail
      refine (KB.out _).mono ?_
      rintro x w3 ⟨rfl, hb3⟩
      have HR3 := Lib.hid (HR2.out.below hb3)
      have HT3 := Lib.hid (HT2.out.below hb3)
      clear hb3 HR2 KB HT2
      go_wp2_with fail
      refine (KR.out _ HT3.out).mono ?_
      rintro x w4 ⟨rfl, hb4⟩
      obtain ⟨r0, r1, r2, rf, bw⟩ := (HR3.out.below hb4).below ((Below.refl w4.heap.size w4).alloc (Nat.le_refl _) (.cells #[.int .i64 0, .int .i64 0, .slice none 0 0] 36))
      clear hb4 HR3 KR HT3
      go_upto_region 11 with fail
      generalize w4.alloc (.cells #[.int .i64 0, .int .i64 0, .slice none 0 0] 36) = Y at *
      go_wp2
      obtain ⟨X, hX, x0, x1, x2, hbX, _⟩ := set3 (v0 := .int .i64 0) (v1 := .int .i64 0) (v2 := .slice none 0 0) bw (Nat.le_refl _) r0 r1 r2
      rw [← hX]
      refine bodyPost_ret (v := .tuple #[.agg #[.int .i64 0, .int .i64 0, .slice none 0 0], .int .i64 9]) ?_ rfl ⟨rfl, hbX⟩
      simp [results, Tryz.results11, go_sem, x0, x1, x2]
    | some q =>
      obtain ⟨no, g, l⟩ := q
      rw [hr] at KR
      by_cases hno : no = k
      · subst hno
        have HO : pgAt t no = some (g, l) := by unfold pgAt; rw [if_neg (by rw [hz]; decide), hr]; exact if_pos rfl
        rw [HO]
        clear hz hr HO
        go_enter Tryz.func11, Tryz.ntmps11
        go_upto_region 1 with fail
        generalize W.alloc (.cells #[.int .i64 0, .int .i64 0, .slice none 0 0] 36) = X0 at *
        go_wp2_with fail
        refine (KP.out _).mono ?_
        rintro x w1 ⟨rfl, rfl⟩
        go_wp2_with fail
        refine KT.out.mono ?_
        rintro x w2 ⟨rfl, hb2⟩
        have HR2 := Lib.hid (HR0.out.below hb2)
        have HT2 := Lib.hid (HT0.out.below hb2)
        clear hb2 HR0 HT0 KT KP S0 ht
        go_wp2_with fail
        refine (KB.out _).mono ?_
        rintro x w3 ⟨rfl, hb3⟩
        have HR3 := Lib.hid (HR2.out.below hb3)
        have HT3 := Lib.hid (HT2.out.below hb3)
        clear hb3 HR2 KB HT2
        have hlt := Dv.block_lt HR3.out.r0
        go_wp2_with fail
        refine (KR.out _ HT3.out).mono ?_
        rintro x w4 ⟨a, c, rfl, hrow, hb4⟩
        have hby := (Below.refl w4.heap.size w4).alloc (Nat.le_refl _) (.cells #[.int .i64 (no : Int), .int .i64 (g : Int), .slice a l.length c] 36)
        obtain ⟨r0, r1, r2, rf, bw⟩ := (HR3.out.below hb4).below hby
        have HC := Lib.hid (hrow.below hby)
        have p0 : (w4.alloc (.cells #[.int .i64 (no : Int), .int .i64 (g : Int), .slice a l.length c] 36)).cell? ⟨w4.heap.size, 0, none⟩ = some (.int .i64 no) := Dv.new_cell rfl rfl
        have p1 : (w4.alloc (.cells #[.int .i64 (no : Int), .int .i64 (g : Int), .slice a l.length c] 36)).cell? ⟨w4.heap.size, 1, none⟩ = some (.int .i64 g) := Dv.new_cell rfl rfl
        have p2 : (w4.alloc (.cells #[.int .i64 (no : Int), .int .i64 (g : Int), .slice a l.length c] 36)).cell? ⟨w4.heap.size, 2, none⟩ = some (.slice a l.length c) := Dv.new_cell rfl rfl
        clear hb4 HR3 KR HT3 hby hrow
        go_upto_region 11 with fail
        generalize w4.alloc (.cells #[.int .i64 (no : Int), .int .i64 (g : Int), .slice a l.length c] 36) = Y at *
        go_wp2
        obtain ⟨X, hX, x0, x1, x2, hbX, hgX⟩ := set3 (v0 := .int .i64 no) (v1 := .int .i64 g) (v2 := .slice a l.length c) bw (Nat.le_refl _) r0 r1 r2
        rw [← hX]
        have RX : RowC X w3.heap.size (.slice a l.length c) l := World.ownsRow.kept HC.out hgX (by
          cases ho : (Value.slice a l.length c).ownBlock with
          | none => exact .inl rfl
          | some k => exact .inr (fun e => by
              injection e with e
              have := (HC.out.lt k ho).1
              have h2 : W.heap.size < w3.heap.size := hlt
              omega))
        refine bodyPost_ret (v := .tuple #[.agg #[.int .i64 (no : Int), .int .i64 g, .slice a l.length c], .int .i64 0]) ?_ rfl ⟨a, c, rfl, RX.base (by have h2 : W.heap.size < w3.heap.size := hlt; omega), hbX⟩
        simp [results, Tryz.results11, go_sem, x0, x1, x2]
      · have HO : pgAt t k = none := by unfold pgAt; rw [if_neg (by rw [hz]; decide), hr]; exact if_neg hno
        rw [HO]
        have hni : (no : Int) ≠ (k : Int) := by omega
        clear hz hr HO hno
        go_enter Tryz.func11, Tryz.ntmps11
        go_upto_region 1 with fail
        generalize W.alloc (.cells #[.int .i64 0, .int .i64 0, .slice none 0 0] 36) = X0 at *
        go_wp2_with fail
        refine (KP.out _).mono ?_
        rintro x w1 ⟨rfl, rfl⟩
        go_wp2_with fail
        refine KT.out.mono ?_
        rintro x w2 ⟨rfl, hb2⟩
        have HR2 := Lib.hid (HR0.out.below hb2)
        have HT2 := Lib.hid (HT0.out.below hb2)
        clear hb2 HR0 HT0 KT KP S0 ht
        go_wp2_with fail
        refine (KB.out _).mono ?_
        rintro x w3 ⟨rfl, hb3⟩
        have HR3 := Lib.hid (HR2.out.below hb3)
        have HT3 := Lib.hid (HT2.out.below hb3)
        clear hb3 HR2 KB HT2
        go_wp2_with fail
        refine (KR.out _ HT3.out).mono ?_
        rintro x w4 ⟨a, c, rfl, hrow, hb4⟩
        have hby := (Below.refl w4.heap.size w4).alloc (Nat.le_refl _) (.cells #[.int .i64 (no : Int), .int .i64 (g : Int), .slice a l.length c] 36)
        obtain ⟨r0, r1, r2, rf, bw⟩ := (HR3.out.below hb4).below hby
        have p0 : (w4.alloc (.cells #[.int .i64 (no : Int), .int .i64 (g : Int), .slice a l.length c] 36)).cell? ⟨w4.heap.size, 0, none⟩ = some (.int .i64 no) := Dv.new_cell rfl rfl
        clear hb4 HR3 KR HT3 hby hrow
        go_upto_region 11 with fail
        generalize w4.alloc (.cells #[.int .i64 (no : Int), .int .i64 (g : Int), .slice a l.length c] 36) = Y at *
        go_wp2
        obtain ⟨X, hX, x0, x1, x2, hbX, _⟩ := set3 (v0 := .int .i64 0) (v1 := .int .i64 0) (v2 := .slice none 0 0) bw (Nat.le_refl _) r0 r1 r2
        rw [← hX]
        refine bodyPost_ret (v := .tuple #[.agg #[.int .i64 0, .int .i64 0, .slice none 0 0], .int .i64 9]) ?_ rfl ⟨rfl, hbX⟩
        simp [results, Tryz.results11, go_sem, x0, x1, x2]
end
end Go.Proofs.YtkemhkmabbladaaGreatDoor
