/-
  THE CONTRACTS OF great and same of law 12.
-/
import Derived.Test.YtaegpniagpehcaaGreatDoorTwRow
namespace Go.Proofs.YtaegpniagpehcaaGreatDoor
open Go.RowKit
def psGreat (ps : List PgV) : Bool := decide (20 < ps.length) || ps.any fun q => clGreat q.l
theorem psGreat_no {ps : List PgV} (h : psGreat ps = false) : ps.length ≤ 20 ∧ ∀ i, i < ps.length → clGreat (ps.getD i noPg).l = false := by
  unfold psGreat at h
  rw [Bool.or_eq_false_iff] at h
  obtain ⟨h1, h2⟩ := h
  refine ⟨by simpa using h1, fun i hi => ?_⟩
  rw [List.any_eq_false] at h2
  have := h2 (ps.getD i noPg) (by rw [List.getD_eq_getElem?_getD, List.getElem?_eq_getElem hi]; exact List.getElem_mem _)
  simpa using this
theorem any_take {ps : List PgV} {k : Nat} (hk : k < ps.length) (h : (ps.take k).any (fun q => clGreat q.l) = false) (h2 : clGreat (ps.getD k noPg).l = false) : (ps.take (k + 1)).any (fun q => clGreat q.l) = false := by
  rw [List.take_succ_eq_append_getElem hk, List.any_append, h]
  rw [List.getD_eq_getElem?_getD, List.getElem?_eq_getElem hk] at h2
  simpa using h2
set_option maxRecDepth 100000 in
set_option maxHeartbeats 4000000 in
theorem great12_any (a : Option Addr) (ps : List PgV) (c : Nat) (w : World) (hn : ps.length ≤ maxLen) (ha : PgsAt w a ps) (hl : ∀ i, (ps.getD i noPg).l.length ≤ maxLen) :
    Calls Tryz.prog 10 #[.slice a ps.length c] w fun x w' => x = .returned (.bool (psGreat ps)) ∧ Below w.heap.size w w' := by
  unfold maxLen at hn
  by_cases h20 : 20 < ps.length
  · have e : psGreat ps = true := by unfold psGreat; rw [decide_eq_true h20]; rfl
    rw [e]
    have h21 : (20 : Int) < (ps.length : Int) := by omega
    clear ha hl e
    go_enter Tryz.func10, Tryz.ntmps10
    go_wp2
    go_ret
    exact ⟨rfl, Below.refl _ _⟩
  · have h21 : (ps.length : Int) ≤ 20 := by omega
    have HE : Hid (psGreat ps = ps.any fun q => clGreat q.l) := by rw [Hid]; unfold psGreat; rw [decide_eq_false h20]; rfl
    generalize hG : psGreat ps = G at HE ⊢
    have HA := Lib.hid ha
    have HLL := Lib.hid hl
    clear ha hl hG h20
    go_enter Tryz.func10, Tryz.ntmps10
    go_wp2
    go_loopw [3] (fun i wr => ∃ k : Nat, k ≤ ps.length ∧ i = .int .i64 k ∧ Hid ((ps.take k).any (fun q => clGreat q.l) = false) ∧ Hid (Below w.heap.size w wr)) (fun i _ => ps.length - (intOf i).toNat)
    case atStart => exact ⟨0, Nat.zero_le _, rfl, rfl, Below.refl _ _⟩
    case round =>
      obtain ⟨k, hk, rfl, HT, HB⟩ := hrel
      rename World => wa
      have hk0 : (0 : Int) ≤ (k : Int) := by omega
      by_cases hlt : k < ps.length
      · have hk1 : (k : Int) < (ps.length : Int) := by omega
        rcases HA.out.below HB.out with hnil | ⟨b, off, rfl, hcs⟩
        · rw [hnil] at hlt; exact absurd hlt (Nat.not_lt_zero _)
        obtain ⟨c0, c1, c2, hcl⟩ := hcs k hlt
        have hlq := HLL.out k
        have HT2 := Lib.hid (fun h => any_take hlt HT.out h)
        have HY : Hid (clGreat (ps.getD k noPg).l = true → G = true) := fun h => by
          rw [HE.out, List.any_eq_true]
          exact ⟨_, by rw [List.getD_eq_getElem?_getD, List.getElem?_eq_getElem hlt]; exact List.getElem_mem _, h⟩
        obtain ⟨q, hq⟩ : ∃ q, q = ps.getD k noPg := ⟨_, rfl⟩
        rw [← hq] at c0 c1 c2 hcl hlq HT2 HY
        have KG := Lib.hid (great_any q.no q.g q.a q.l q.c _ hlq hcl)
        obtain ⟨qn, hqn⟩ : ∃ z, z = q.no := ⟨_, rfl⟩
        obtain ⟨qg, hqg⟩ : ∃ z, z = q.g := ⟨_, rfl⟩
        obtain ⟨qa, hqa⟩ : ∃ z, z = q.a := ⟨_, rfl⟩
        obtain ⟨qm, hqm⟩ : ∃ z, z = q.l.length := ⟨_, rfl⟩
        obtain ⟨qc, hqc⟩ : ∃ z, z = q.c := ⟨_, rfl⟩
        rw [← hqn, ← hqg, ← hqa, ← hqm, ← hqc] at KG
        rw [← hqn] at c0
        rw [← hqg] at c1
        rw [← hqa, ← hqm, ← hqc] at c2
        clear hq hcl hcs hlq hqn hqg hqa hqm hqc
        cases hg : clGreat q.l with
        | true =>
          rw [hg] at KG
          have hGt := HY.out hg
          subst hGt
          clear HT2 HY hg
          go_wp2_with fail
          refine KG.out.mono ?_
          rintro x w2 ⟨rfl, hb2⟩
          have B2 := Lib.hid (HB.out.trans (hb2.mono HB.out.size))
          clear hb2 HB KG
          go_wp2
          go_ret
          exact ⟨rfl, B2.out⟩
        | false =>
          rw [hg] at KG
          have HT3 := Lib.hid (HT2.out hg)
          clear HT2 HY hg HT
          go_wp2_with fail
          refine KG.out.mono ?_
          rintro x w2 ⟨rfl, hb2⟩
          have B2 := Lib.hid (HB.out.trans (hb2.mono HB.out.size))
          clear hb2 HB KG c0 c1 c2
          go_wp2
          go_roundw
          case rel => exact ⟨k + 1, by omega, by go_num, HT3, B2⟩
          case measure => simp [intOf]; omega
      · have hk1 : (ps.length : Int) ≤ (k : Int) := by omega
        have hkl : k = ps.length := by omega
        have hGf : G = false := by
          have := HT.out
          rw [hkl, List.take_length] at this
          rw [HE.out, this]
        subst hGf
        go_wp2
        go_ret
        exact ⟨rfl, HB.out⟩
/-- A row of pages that reads as pages are. -/
def NowIs (np : Nat) (ps : List PgV) (now : Nat → Pg) : Prop := ps.length = np ∧ ∀ k, k < np → (ps.getD k noPg).no = (k : Int) ∧ ((ps.getD k noPg).g, (ps.getD k noPg).l) = now k
section
variable {w W : World} {D P L M n B T np : Nat} {now : Nat → Pg} {pm : Pm}
theorem c_page_out (h : Tk w W D P L M n B T np now pm) (no : Int) (hno : no < 0 ∨ (np : Int) ≤ no) : Calls Tryz.prog 19 #[.pointer (some ⟨T, 0, none⟩), .int .i64 no] W (Pg0 W 7) := by
  obtain ⟨s, q1, _⟩ := h
  exact page_out q1 no hno
theorem c_pages (h : Tk w W D P L M n B T np now pm) : Calls Tryz.prog 24 #[.pointer (some ⟨T, 0, none⟩)] W fun x w' => x = .returned (.int .i64 (np : Int)) ∧ W = w' := by
  obtain ⟨s, q1, _⟩ := h
  exact pages_s q1
theorem pgSame_rfl (a b : Int) (l : List (ByteArray × ByteArray)) : pgSame a b l a b l = true := by unfold pgSame; simp
set_option maxRecDepth 100000 in
set_option maxHeartbeats 4000000 in
theorem same12 (h : Tk w W D P L M n B T np now pm) (hon : pm ≠ .off) (hn : n ≤ 4096) (hfit : 5 + 4 * np ≤ n) (R : Nat) (ps : List PgV) (c : Nat) (hp : PgsAt W (some ⟨R, 0, none⟩) ps) (hnow : NowIs np ps now) (hsm : ∀ k, k < np → (now k).2.length ≤ 1000000) :
    Calls Tryz.prog 13 #[.pointer (some ⟨T, 0, none⟩), .slice (some ⟨R, 0, none⟩) np c] W fun x w' => x = .returned (.bool true) ∧ Below W.heap.size W w' := by
  have H := Lib.hid h
  have HP := Lib.hid hp
  have HN := Lib.hid hnow.2
  have hlen := hnow.1
  have HS := Lib.hid hsm
  have np0 : (np : Int) ≤ 4096 := by omega
  clear h hp hnow hsm
  go_enter Tryz.func13, Tryz.ntmps13
  go_wp2
  go_loopw [5] (fun i wr => ∃ k : Nat, k ≤ np ∧ i = .int .i64 k ∧ Hid (Below W.heap.size W wr)) (fun i _ => np - (intOf i).toNat)
  case atStart => exact ⟨0, Nat.zero_le _, rfl, Below.refl _ _⟩
  case round =>
    obtain ⟨k, hk, rfl, HB⟩ := hrel
    rename World => wa
    have hk0 : (0 : Int) ≤ (k : Int) := by omega
    by_cases hlt : k < np
    · have hk1 : (k : Int) < (np : Int) := by omega
      have KP := Lib.hid (c_page (H.out.below HB.out) hon hn hfit k hlt)
      obtain ⟨hno, hgl⟩ := HN.out k hlt
      have hs1 := HS.out k hlt
      have HX := Lib.hid (fun W1 (hb : Below W.heap.size W W1) => HP.out.below hb)
      go_wp2_with fail
      refine KP.out.mono ?_
      rintro x w1 ⟨_, a, c1, rfl, hr, hb1⟩
      have hba := (Below.refl w1.heap.size w1).alloc (Nat.le_refl _) (.cells #[.int .i64 (k : Int), .int .i64 (now k).1, .slice a (now k).2.length c1] 36)
      have B1 := Lib.hid ((HB.out.trans (hb1.mono HB.out.size)).trans (hba.mono (HB.out.trans (hb1.mono HB.out.size)).size))
      have CL1 := Lib.hid ((hr.below hba).clsAt)
      have p0 : (w1.alloc (.cells #[.int .i64 (k : Int), .int .i64 (now k).1, .slice a (now k).2.length c1] 36)).cell? ⟨w1.heap.size, 0, none⟩ = some (.int .i64 (k : Int)) := Dv.new_cell rfl rfl
      have p1 : (w1.alloc (.cells #[.int .i64 (k : Int), .int .i64 (now k).1, .slice a (now k).2.length c1] 36)).cell? ⟨w1.heap.size, 1, none⟩ = some (.int .i64 (now k).1) := Dv.new_cell rfl rfl
      have p2 : (w1.alloc (.cells #[.int .i64 (k : Int), .int .i64 (now k).1, .slice a (now k).2.length c1] 36)).cell? ⟨w1.heap.size, 2, none⟩ = some (.slice a (now k).2.length c1) := Dv.new_cell rfl rfl
      rcases HX.out _ B1.out with hnil | ⟨b, off, e, hcs⟩
      · rw [hnil] at hlen; rw [← hlen] at hlt; exact absurd hlt (Nat.not_lt_zero _)
      injection e with e
      injection e with eb eo _
      subst eb eo
      obtain ⟨d0, d1, d2, dcl⟩ := hcs k (by omega)
      obtain ⟨q, hq⟩ : ∃ q, q = ps.getD k noPg := ⟨_, rfl⟩
      rw [← hq] at d0 d1 d2 dcl hno hgl
      have hg1 : q.g = (now k).1 := congrArg Prod.fst hgl
      have hl1 : q.l = (now k).2 := congrArg Prod.snd hgl
      rw [hno] at d0
      rw [hg1] at d1
      rw [hl1] at d2 dcl
      rw [Nat.zero_add] at d0 d1 d2
      clear hcs hq hno hgl hg1 hl1 hr hb1 hba HX KP HB
      generalize q.a = qa at *
      generalize q.c = qc at *
      generalize hnk : now k = nk at *
      obtain ⟨ng, nl⟩ := nk
      have KS := Lib.hid (refSame_any (k : Int) ng a nl c1 (k : Int) ng qa nl qc (w1.alloc (.cells #[.int .i64 (k : Int), .int .i64 ng, .slice a nl.length c1] 36)).drew hs1 CL1.out dcl)
      rw [pgSame_rfl] at KS
      clear CL1 dcl hnk hs1
      go_upto_region 5 with fail
      have hl := Lib.hid hlen
      clear hlen
      generalize hY : w1.alloc (.cells #[.int .i64 (k : Int), .int .i64 ng, .slice a nl.length c1] 36) = Y at *
      clear hY
      go_region_held3 (fun w' => w'.cell? ⟨w1.heap.size, 0, none⟩ = some (.int .i64 (k : Int)) ∧ w'.cell? ⟨w1.heap.size, 1, none⟩ = some (.int .i64 ng) ∧ w'.cell? ⟨w1.heap.size, 2, none⟩ = some (.slice a nl.length c1) ∧ w'.cell? ⟨R, k * 3, none⟩ = some (.int .i64 (k : Int)) ∧ w'.cell? ⟨R, k * 3 + 1, none⟩ = some (.int .i64 ng) ∧ w'.cell? ⟨R, k * 3 + 2, none⟩ = some (.slice qa nl.length qc))
        ((refine ⟨?_, ?_, ?_, ?_, ?_, ?_⟩ <;> (repeat (first | with_reducible assumption | with_reducible refine tw_drew ?_ | with_reducible refine Dv.keep_cell (by assumption) ?_))))
        (first | (go_at_call 20; refine KS.out.mono ?_; rintro x w6 ⟨rfl, hb6⟩))
      have B6 := Lib.hid (B1.out.trans (((Below.refl Y.heap.size Y).drew.trans hb6).mono B1.out.size))
      have hlen := hl.out
      clear hb6 KS B1 p0 p1 p2 d0 d1 d2 hl
      go_wp2
      go_roundw
      case rel => exact ⟨k + 1, by omega, by go_num, B6⟩
      case measure => simp [intOf]; omega
    · have hk1 : (np : Int) ≤ (k : Int) := by omega
      have KP1 := Lib.hid (fun W1 (hk : Tk w W1 D P L M n B T np now pm) => c_page_out hk (np : Int) (.inr (Int.le_refl _)))
      have KP2 := Lib.hid (fun W1 (hk : Tk w W1 D P L M n B T np now pm) => c_page_out hk (-1) (.inl (by omega)))
      have KG := Lib.hid (fun W1 (hk : Tk w W1 D P L M n B T np now pm) => c_pages hk)
      have hl := Lib.hid hlen
      clear hlen HP HN HS
      go_wp2_with fail
      refine (KP1.out _ (H.out.below HB.out)).mono ?_
      rintro x w1 ⟨rfl, hb1⟩
      have hba := (Below.refl w1.heap.size w1).alloc (Nat.le_refl _) (.cells #[.int .i64 0, .int .i64 0, .slice none 0 0] 36)
      have hB1 := HB.out.trans (hb1.mono HB.out.size)
      have B1 := Lib.hid (hB1.trans (hba.mono hB1.size))
      clear hb1 hba hB1 HB KP1
      go_upto_region 8 with fail
      generalize w1.alloc (.cells #[.int .i64 0, .int .i64 0, .slice none 0 0] 36) = Y1 at *
      go_wp2_with fail
      refine (KP2.out _ (H.out.below B1.out)).mono ?_
      rintro x w2 ⟨rfl, hb2⟩
      have hba := (Below.refl w2.heap.size w2).alloc (Nat.le_refl _) (.cells #[.int .i64 0, .int .i64 0, .slice none 0 0] 36)
      have hB2 := B1.out.trans (hb2.mono B1.out.size)
      have B2 := Lib.hid (hB2.trans (hba.mono hB2.size))
      clear hb2 hba hB2 B1 KP2
      go_upto_region 9 with fail
      generalize w2.alloc (.cells #[.int .i64 0, .int .i64 0, .slice none 0 0] 36) = Y2 at *
      go_wp2_with fail
      refine (KG.out _ (H.out.below B2.out)).mono ?_
      rintro x w3 ⟨rfl, rfl⟩
      clear KG H
      go_wp2
      go_ret
      exact ⟨rfl, B2.out⟩
end
end Go.Proofs.YtaegpniagpehcaaGreatDoor
