/-
  SpaceBack: the walk.
-/
import Derived.Test.YtjjbdkgnkieliaaSpBackA
namespace Go.Proofs.Ytjjbdkgnkieliaa
open Go.RowKit
theorem wrap_u8 (n : Nat) (h : n < 256) : IntKind.u8.wrap (n : Int) = n := by
  unfold IntKind.wrap
  simp [IntKind.bits, IntKind.signed]
  omega
theorem keepc {w w' : World} {p : Addr} {v : Value} (hb : Below w.heap.size w w') (hc : w.cell? p = some v) : w'.cell? p = some v := (hb.cell (block_lt hc)).trans hc
theorem put8 {c a y : Int} (h : c + 1 + (a - y) + max 0 (y - 1) ≤ 8) : c + (if false = true then -1 else 1) + (a + (stepN y false - y)) ≤ 8 := by
  unfold stepN
  simp only [Bool.false_eq_true, if_false]
  split <;> omega
theorem ownsRow_below' {w w' : World} {B size k : Nat} {e : TypeId} {v : Value} {xs : List Value} (h : w.ownsRow B e size v k xs) (hb : Below w.heap.size w w') : w'.ownsRow B e size v k xs :=
  h.kept (row := none) ⟨hb.os, hb.tape, hb.output, hb.size, fun i hi _ => hb.block i hi⟩ (by cases v.ownBlock <;> simp)
/-- The first loop's arguments. -/
structure BackArg (W : World) (la : Option Addr) (l : List Mv) (qa : Option Addr) (q : List Nat) : Prop where
  l8 : ∀ i, i < l.length → (l.getD i noMv).1 < 256
  q8 : ∀ i, i < q.length → q.getD i 0 < 256
  la : MvsAt W la l
  qa : U8s W qa q
/-- Behind place k nothing is the transaction's. -/
def NoMore (l : List Mv) (t : Nat) (k : Int) : Prop := ∀ x : Nat, k < (x : Int) → x < l.length → (l.getD x noMv).1 ≠ t
theorem NoMore.start (l : List Mv) (t p : Nat) (h : l.length = p + 1) : Hid (NoMore l t (p : Int)) := fun x h1 h2 => by omega
theorem NoMore.step {l : List Mv} {t kn : Nat} (h : NoMore l t (kn : Int)) (hx : ¬ (l.getD kn noMv).1 = t) : NoMore l t ((kn : Int) - 1) := fun x h1 h2 => by
  by_cases e : x = kn
  · subst e; exact hx
  · exact h x (by omega) h2
theorem NoMore.drop {l : List Mv} {t kn : Nat} (h : NoMore l t (kn : Int)) : ∀ x ∈ l.drop (kn + 1), x.1 ≠ t := fun x hx => by
  obtain ⟨j, hj, rfl⟩ := List.getElem_of_mem hx
  rw [List.length_drop] at hj
  have := h (kn + 1 + j) (by omega) (by omega)
  rw [List.getD_eq_getElem?_getD, List.getElem?_eq_getElem (by omega)] at this
  rw [List.getElem_drop]; exact this
theorem getD_mem {l : List Mv} {k : Nat} (h : k < l.length) : l.getD k noMv ∈ l := by
  rw [List.getD_eq_getElem?_getD, List.getElem?_eq_getElem h]; exact List.getElem_mem h
theorem split_at {l : List Mv} {k t : Nat} (h : k < l.length) (hx : (l.getD k noMv).1 = t) : l.take k ++ (t, (l.getD k noMv).2) :: l.drop (k + 1) = l := by
  have e : (t, (l.getD k noMv).2) = l[k] := by
    rw [← hx, List.getD_eq_getElem?_getD, List.getElem?_eq_getElem h]; rfl
  rw [e, ← List.drop_eq_getElem_cons h, List.take_append_drop]
theorem flat_one (l : List Mv) : ∀ u ∈ flat l, u.oneCell' = true := fun u hu => by
  unfold flat at hu
  obtain ⟨m, _, hm⟩ := List.mem_flatMap.1 hu
  simp at hm; rcases hm with rfl | rfl <;> rfl
set_option maxRecDepth 100000 in
set_option maxHeartbeats 16000000 in
theorem spaceBack_walk (first : Nat) (la : Option Addr) (l : List Mv) (lc : Nat) (qa : Option Addr) (q : List Nat) (qc : Nat) (W : World) (hA : BackArg W la l qa q) :
    Calls Try.prog 5 #[.int .u8 (first : Int), .slice la l.length lc, .slice qa q.length qc] W fun e w' => e = .returned (.bool true) ∧ Below W.heap.size W w' := by
  have KA := Lib.hid (awake_any W)
  by_cases h1 : 80 < l.length
  · have h1' : (80 : Int) < (l.length : Int) := by omega
    go_enter Try.func5, Try.ntmps5
    go_wp2_with fail
    refine KA.out.mono ?_
    rintro x w1 ⟨rfl, hb⟩
    go_wp2
    go_ret
    exact ⟨rfl, hb⟩
  · have h1' : (l.length : Int) ≤ 80 := by omega
    by_cases h2 : 200 < q.length
    · have h2' : (200 : Int) < (q.length : Int) := by omega
      go_enter Try.func5, Try.ntmps5
      go_wp2_with fail
      refine KA.out.mono ?_
      rintro x w1 ⟨rfl, hb⟩
      go_wp2
      go_ret
      exact ⟨rfl, hb⟩
    · have h2' : (q.length : Int) ≤ 200 := by omega
      have hl80 : l.length ≤ 80 := by omega
      have hq200 : q.length ≤ 200 := by omega
      obtain ⟨i0, hi, hz0, hz1, hz2⟩ := info_partsMv
      have HI := Lib.hid hi
      have HZ0 := Lib.hid hz0
      have HZ1 := Lib.hid hz1
      have HZ2 := Lib.hid hz2
      have hl8 := hA.l8
      have hq8 := hA.q8
      have HL := Lib.hid hA.la
      have HQ := Lib.hid hA.qa
      clear hi hz0 hz1 hz2 h1 h2 hA
      obtain ⟨m0, hm0⟩ : ∃ m0, m0 = first % 9 := ⟨_, rfl⟩
      have hm8 : m0 ≤ 8 := by omega
      have e0 : ((first : Int)).tmod 9 = (m0 : Int) := by rw [hm0]; rfl
      have e00 : IntKind.i64.wrap (m0 : Int) = (m0 : Int) := IntWalk.i64_in _ (by omega)
      obtain ⟨n0, hn0⟩ : ∃ n0 : Int, n0 = (m0 : Int) := ⟨_, rfl⟩
      rw [← hn0] at e0 e00
      have hn8 : n0 ≤ 8 := by omega
      have hn00 : 0 ≤ n0 := by omega
      clear hm0 hm8 hn0
      go_enter Try.func5, Try.ntmps5
      go_wp2_with fail
      refine KA.out.mono ?_
      rintro x w1 ⟨rfl, hb⟩
      have KN := Lib.hid (new_any w1)
      clear KA
      go_wp2_with fail
      refine KN.out.mono ?_
      rintro x w2 ⟨S, T, A, rfl, hsp, hbn, hS, hT, hAA⟩
      have bel := hb.trans (hbn.out.mono hb.size)
      obtain ⟨B, hB⟩ : ∃ B, B = w2.heap.size := ⟨_, rfl⟩
      have lts := hsp.out.lts
      have z1 := hb.size
      have S0 : Hid (BackE W w2 B S T A n0 0 (.int .i64 n0) (.slice none 0 0)) := ⟨[], _, bk0, {
        nv := rfl, sp := hsp.out, bk := BkOk.start, l4 := fun m hm => by simp at hm
        s8 := by show n0 + 0 ≤ 8; omega
        c0 := hn00, len := Nat.le_refl _, row := ⟨rfl, .inl ⟨rfl, rfl⟩⟩, bel := bel, size := by omega, sB := by omega, wB := by have := bel.size; omega
        bT := by omega, bA := by omega, bo := fun t x e => by cases e }⟩
      clear KN hsp hbn hb bel hB lts z1 hS hT hAA
      go_wp2
      go_loopw [8, 9, 10] (fun nn dd ii w' => ∃ i : Nat, i ≤ l.length ∧ ii = .int .i64 i ∧ Hid (BackE W w' B S T A n0 i nn dd)) (fun _ _ ii _ => l.length - (intOf ii).toNat)
      case atStart => exact ⟨0, Nat.zero_le _, rfl, S0⟩
      case round =>
        obtain ⟨i, hi, rfl, hs⟩ := hrel
        rename World => wr
        clear S0
        by_cases hlt : i < l.length
        · obtain ⟨done, o, b, hs⟩ := hs.out
          have hnv := hs.nv
          obtain ⟨c, hc⟩ : ∃ c, c = cellsN n0 done := ⟨_, rfl⟩
          rw [← hc] at hnv
          subst hnv
          have c0 : 0 ≤ c := by have := hs.c0; omega
          have c8 : c ≤ 8 := by have := hs.s8; have := sum4_pos done; omega
          have HC := Lib.hid hc
          have HS := Lib.hid hs
          obtain ⟨bb, off, rfl, hcell⟩ : ∃ bb off, la = some ⟨bb, off, none⟩ ∧ ∀ i, i < l.length → W.cell? ⟨bb, off + i * 2, none⟩ = some (.int .u8 ((l.getD i noMv).1 : Int)) ∧ W.cell? ⟨bb, off + i * 2 + 1, none⟩ = some (.bool (l.getD i noMv).2) := by
            rcases HL.out with h | h
            · rw [h] at hlt; simp at hlt
            · exact h
          obtain ⟨q1, q2⟩ := hcell i hlt
          have u1 := hl8 i hlt
          obtain ⟨m1, hm1⟩ : ∃ m1, m1 = (l.getD i noMv).1 := ⟨_, rfl⟩
          rw [← hm1] at q1 u1
          have bel := hs.bel
          have k1 := keepc bel q1
          have k2 := keepc bel q2
          have HQ2 := Lib.hid q2
          obtain ⟨t, ht⟩ : ∃ t, t = m1 % 4 := ⟨_, rfl⟩
          have ht4 : t < 4 := by omega
          have e1 : ((m1 : Int)).tmod 4 = (t : Int) := by rw [ht]; rfl
          have e2 : IntKind.i64.wrap (t : Int) = (t : Int) := IntWalk.i64_in _ (by omega)
          have e3 : IntKind.u8.wrap (t : Int) = (t : Int) := wrap_u8 t (by omega)
          have hil : (i : Int) < (l.length : Int) := by omega
          clear hc hs hcell q1 q2 hm1 ht bel
          cases hk : (l.getD i noMv).2 with
          | true =>
            rw [hk] at k2 HQ2
            clear hk
            by_cases hpos : 0 < c
            · have ha := (Below.refl wr.heap.size wr).alloc (Nat.le_refl _) (.cells #[.int .i64 3] 3)
              have s1 := HS.out.sp.below ha
              have KT := Lib.hid (take_any s1 (t : Int) (WalkArith.wf_i64 (by omega)) (some ⟨wr.heap.size, 0, none⟩) [3] 1 (one_int wr 3 3) (fun j hj => by
                have h0 : j = 0 := by simp at hj; exact hj
                subst h0; decide) (fun y e => by
                injection e with e; subst e
                exact s1.apart (x := ⟨wr.heap.size, 0, none⟩) (v := .int .i64 3) (by simp [World.cell?_alloc_at])) (by simp only [List.length_cons, List.length_nil]; omega))
              have r1 := HS.out.row.alloc (.cells #[.int .i64 3] 3)
              have S1 := Lib.hid s1
              have R1 := Lib.hid r1
              have HA := Lib.hid ha
              clear s1 r1 ha
              go_wp2_with fail
              refine KT.out.mono ?_
              rintro x w2 ⟨rfl, hb2⟩
              obtain ⟨o2, s2, f2⟩ := hb2.out
              change SpIn w2 S T A (3 * i + 3 * 1) o2 (takeB (t : Int) b [3]).1 (takeB (t : Int) b [3]).2 at s2
              have r2 := ownsRow_fr S1.out R1.out f2
              have bel2 : Below W.heap.size W w2 := (HS.out.bel.trans (HA.out.mono HS.out.bel.size)).trans (f2.below (HS.out.bel.trans (HA.out.mono HS.out.bel.size)).size HS.out.bT HS.out.bA HS.out.bo)
              have bo2 : ∀ t x, o2 t = some x → W.heap.size ≤ x := fun t x e => by
                rcases f2.own t x e with e | e
                · exact HS.out.bo t x e
                · exact Nat.le_trans (HS.out.bel.trans (HA.out.mono HS.out.bel.size)).size e
              have z2 : B ≤ w2.heap.size := Nat.le_trans (Nat.le_trans HS.out.size HA.out.size) f2.size
              have R2 := Lib.hid r2
              have S2 := Lib.hid s2
              have BEL2 := Lib.hid bel2
              have BO2 := Lib.hid bo2
              clear KT hb2 s2 f2 r2 bel2 bo2 S1 R1 HA
              have w1 : IntKind.i64.wrap (c - 1) = c - 1 := IntWalk.i64_in _ (by omega)
              have hi := HI.out
              have hz0 := HZ0.out
              have hz1 := HZ1.out
              have hz2 := HZ2.out
              have r2 := R2.out
              have hdl := HS.out.len
              go_wp2_with (first
                | (at_builtin; refine wpList_append_own _ rfl _ _ 45 rfl B 48 i0 (.agg #[.int .u8 0, .bool false]) 2 2 Try.underlying45 hi hz0 hz1 hz2 rfl (by decide) _ _ _ rfl (r2.alloc _) ⟨w2.heap.size, 0, none⟩ 1 1 [.int .u8 (t : Int), .bool true] rfl rfl ?c1 ?c2 ?c3 ?c4 ?c5 ?_)
                | fail)
              case c1 =>
                intro j u hj
                match j, hj with
                | 0, hj => simp at hj; subst hj; simp [Addr.add, World.cell?_alloc_at]
                | 1, hj => simp at hj; subst hj; simp [Addr.add, World.cell?_alloc_at]
              case c2 => intro u hu; simp at hu; rcases hu with rfl | rfl <;> rfl
              case c3 => unfold maxLen; omega
              case c4 => omega
              case c5 => simp only [World.size_alloc]; omega
              intro v' w3 hown' hgrow _
              have hbw : Below B w2 w3 := by
                have b1 := (Below.refl B w2).alloc z2 (.cells #[.int .u8 (t : Int), .bool true] 48)
                exact b1.trans (below_grown hgrow (fun q hq => (r2.lt q hq).1) (by simp only [World.size_alloc]; omega))
              have bel3 : Below W.heap.size W w3 := BEL2.out.trans (hbw.mono HS.out.wB)
              have s3 := (S2.out.below ((Below.refl w2.heap.size w2).alloc (Nat.le_refl _) (.cells #[.int .u8 (t : Int), .bool true] 48))).row HS.out.sB (r2.alloc _) hgrow
              have F1 : BackS W w3 B S T A n0 (i + 1) (.int .i64 (c - 1)) v' (done ++ [(t, true)]) o2 (takeB (t : Int) b [3]) :=
                { nv := by rw [cellsN_snoc, ← HC.out]; rfl
                  sp := s3.mono (by omega)
                  bk := HS.out.bk.take t ht4
                  l4 := snoc_l4 HS.out.l4 ht4
                  s8 := by
                    rw [cellsN_snoc, sum4_snoc _ _ ht4, ← HC.out]
                    have h8 := HS.out.s8
                    have hn := needs_pos t done
                    rw [← HC.out] at h8
                    simp only [stepN, if_true]; omega
                  c0 := by rw [cellsN_snoc, ← HC.out]; simp only [if_true]; omega
                  len := by rw [List.length_append]; exact Nat.succ_le_succ HS.out.len
                  row := by rw [List.length_append, ← flat_snoc]; exact hown'
                  bel := bel3
                  size := Nat.le_trans z2 hbw.size
                  sB := HS.out.sB, wB := HS.out.wB, bT := HS.out.bT, bA := HS.out.bA, bo := BO2.out }
              have k3 := keepc bel3 HQ2.out
              have FIN := Lib.hid F1
              clear hown' hgrow hbw bel3 s3 F1 hi hz0 hz1 hz2 r2 hdl k1 k2 z2 R2 S2 BEL2 BO2
              have KA := Lib.hid (all_any FIN.out.sp 3 (by decide))
              have hal := FIN.out.bk.all
              have hs8 := FIN.out.s8
              have hp4 := sum4_pos (done ++ [(t, true)])
              have hnv := FIN.out.nv
              injection hnv with _ hnv
              rw [hal] at KA
              obtain ⟨z, hz⟩ : ∃ z, z = sum4 (done ++ [(t, true)]) := ⟨_, rfl⟩
              rw [← hz] at KA hs8 hp4
              rw [← hnv] at hs8
              have g1 : c - 1 ≤ 8 := by omega
              have w2 : IntKind.i64.wrap (c - 1 + z) = c - 1 + z := IntWalk.i64_in _ (by omega)
              have g2 : c - 1 + z ≤ 8 := by omega
              have RR : Hid (BackE W w3 B S T A n0 (i + 1) (.int .i64 (c - 1)) v') := ⟨_, _, _, FIN.out⟩
              clear hal hs8 hp4 hz hnv FIN
              go_wp2_with fail
              refine KA.out.mono ?_
              rintro x w9 ⟨rfl, rfl⟩
              clear KA
              go_wp2
              go_round
              case rel => exact ⟨i + 1, by omega, by go_num, RR⟩
              case measure => simp [intOf]; omega
            · have hpos' : c ≤ 0 := by omega
              have FIN0 : BackS W wr B S T A n0 (i + 1) (.int .i64 c) u9 done o b := { HS.out with sp := HS.out.sp.mono (by omega), len := Nat.le_succ_of_le HS.out.len, nv := by rw [← HC.out] }
              have HFIN := Lib.hid FIN0
              clear FIN0
              have KA := Lib.hid (all_any HFIN.out.sp 3 (by decide))
              have hal := HFIN.out.bk.all
              have hs8 := HFIN.out.s8
              have hp4 := sum4_pos (done)
              have hnv := HFIN.out.nv
              injection hnv with _ hnv
              rw [hal] at KA
              obtain ⟨z, hz⟩ : ∃ z, z = sum4 (done) := ⟨_, rfl⟩
              rw [← hz] at KA hs8 hp4
              rw [← hnv] at hs8
              have g1 : c ≤ 8 := by omega
              have w2 : IntKind.i64.wrap (c + z) = c + z := IntWalk.i64_in _ (by omega)
              have g2 : c + z ≤ 8 := by omega
              have RR : Hid (BackE W wr B S T A n0 (i + 1) (.int .i64 (c)) u9) := ⟨_, _, _, HFIN.out⟩
              clear hal hs8 hp4 hz hnv HFIN
              go_wp2_with fail
              refine KA.out.mono ?_
              rintro x w9 ⟨rfl, rfl⟩
              clear KA
              go_wp2
              go_round
              case rel => exact ⟨i + 1, by omega, by go_num, RR⟩
              case measure => simp [intOf]; omega
          | false =>
            rw [hk] at k2 HQ2
            clear hk
            have KP := Lib.hid (page_any 3 c.toNat (by omega) wr)
            rw [show ((c.toNat : Nat) : Int) = c by omega] at KP
            go_wp2_with fail
            refine KP.out.mono ?_
            rintro x wp ⟨ca, cc, rfl, hp⟩
            have KM := may_any (HS.out.sp.below hp) (by omega) (t : Int) 3 0 ca c.toNat cc (by omega) (WalkArith.wf_i64 (by omega)) (by decide)
            rw [show ((c.toNat : Nat) : Int) = c by omega, HS.out.bk.own t ht4, HS.out.bk.all] at KM
            have KM := Lib.hid KM
            have HP := Lib.hid hp
            clear KP hp
            by_cases hmay : c + 1 + (sum4 done - needs t done) + max 0 (needs t done - 1) ≤ 8
            · rw [decide_eq_true hmay] at KM
              have HMAY := Lib.hid hmay
              clear hmay
              go_wp2_with fail
              refine KM.out.mono ?_
              rintro x wx ⟨rfl, hm⟩
              have bx := HP.out.trans (hm.mono HP.out.size)
              have HX0 : BackS W wx B S T A n0 i (.int .i64 c) u9 done o b := { HS.out with sp := HS.out.sp.below bx, row := ownsRow_below' HS.out.row bx, bel := HS.out.bel.trans (bx.mono HS.out.bel.size), size := Nat.le_trans HS.out.size bx.size }
              have HX := Lib.hid HX0
              clear hm bx HX0 HP HS
              have ha := (Below.refl wx.heap.size wx).alloc (Nat.le_refl _) (.cells #[.int .i64 3] 3)
              have s1 := HX.out.sp.below ha
              have KT := Lib.hid (put_any s1 (t : Int) (WalkArith.wf_i64 (by omega)) (HX.out.bk.le t ht4) (some ⟨wx.heap.size, 0, none⟩) [3] 1 (one_int wx 3 3) (fun j hj => by
                have h0 : j = 0 := by simp at hj; exact hj
                subst h0; decide) (fun y e => by
                injection e with e; subst e
                exact s1.apart (x := ⟨wx.heap.size, 0, none⟩) (v := .int .i64 3) (by simp [World.cell?_alloc_at])) (by simp only [List.length_cons, List.length_nil]; omega))
              have r1 := HX.out.row.alloc (.cells #[.int .i64 3] 3)
              have S1 := Lib.hid s1
              have R1 := Lib.hid r1
              have HA := Lib.hid ha
              clear s1 r1 ha
              go_wp2_with fail
              refine KT.out.mono ?_
              rintro x w2 ⟨rfl, hb2⟩
              obtain ⟨o2, s2, f2⟩ := hb2.out
              change SpIn w2 S T A (3 * i + 3 * 1) o2 (putB (t : Int) b [3]).1 (putB (t : Int) b [3]).2 at s2
              have r2 := ownsRow_fr S1.out R1.out f2
              have bel2 : Below W.heap.size W w2 := (HX.out.bel.trans (HA.out.mono HX.out.bel.size)).trans (f2.below (HX.out.bel.trans (HA.out.mono HX.out.bel.size)).size HX.out.bT HX.out.bA HX.out.bo)
              have bo2 : ∀ t x, o2 t = some x → W.heap.size ≤ x := fun t x e => by
                rcases f2.own t x e with e | e
                · exact HX.out.bo t x e
                · exact Nat.le_trans (HX.out.bel.trans (HA.out.mono HX.out.bel.size)).size e
              have z2 : B ≤ w2.heap.size := Nat.le_trans (Nat.le_trans HX.out.size HA.out.size) f2.size
              have R2 := Lib.hid r2
              have S2 := Lib.hid s2
              have BEL2 := Lib.hid bel2
              have BO2 := Lib.hid bo2
              clear KT hb2 s2 f2 r2 bel2 bo2 S1 R1 HA KM
              have w1 : IntKind.i64.wrap (c + 1) = c + 1 := IntWalk.i64_in _ (by omega)
              have hi := HI.out
              have hz0 := HZ0.out
              have hz1 := HZ1.out
              have hz2 := HZ2.out
              have r2 := R2.out
              have hdl := HX.out.len
              go_wp2_with (first
                | (at_builtin; refine wpList_append_own _ rfl _ _ 45 rfl B 48 i0 (.agg #[.int .u8 0, .bool false]) 2 2 Try.underlying45 hi hz0 hz1 hz2 rfl (by decide) _ _ _ rfl (r2.alloc _) ⟨w2.heap.size, 0, none⟩ 1 1 [.int .u8 (t : Int), .bool false] rfl rfl ?c1 ?c2 ?c3 ?c4 ?c5 ?_)
                | fail)
              case c1 =>
                intro j u hj
                match j, hj with
                | 0, hj => simp at hj; subst hj; simp [Addr.add, World.cell?_alloc_at]
                | 1, hj => simp at hj; subst hj; simp [Addr.add, World.cell?_alloc_at]
              case c2 => intro u hu; simp at hu; rcases hu with rfl | rfl <;> rfl
              case c3 => unfold maxLen; omega
              case c4 => omega
              case c5 => simp only [World.size_alloc]; omega
              intro v' w3 hown' hgrow _
              have hbw : Below B w2 w3 := by
                have b1 := (Below.refl B w2).alloc z2 (.cells #[.int .u8 (t : Int), .bool false] 48)
                exact b1.trans (below_grown hgrow (fun q hq => (r2.lt q hq).1) (by simp only [World.size_alloc]; omega))
              have bel3 : Below W.heap.size W w3 := BEL2.out.trans (hbw.mono HX.out.wB)
              have s3 := (S2.out.below ((Below.refl w2.heap.size w2).alloc (Nat.le_refl _) (.cells #[.int .u8 (t : Int), .bool false] 48))).row HX.out.sB (r2.alloc _) hgrow
              have F1 : BackS W w3 B S T A n0 (i + 1) (.int .i64 (c + 1)) v' (done ++ [(t, false)]) o2 (putB (t : Int) b [3]) :=
                { nv := by rw [cellsN_snoc, ← HC.out]; rfl
                  sp := s3.mono (by omega)
                  bk := HX.out.bk.put t ht4
                  l4 := snoc_l4 HX.out.l4 ht4
                  s8 := by
                    rw [cellsN_snoc, sum4_snoc _ _ ht4, ← HC.out]
                    have h8 := HX.out.s8
                    have hn := needs_pos t done
                    rw [← HC.out] at h8
                    exact put8 (HMAY.out) 
                  c0 := by rw [cellsN_snoc, ← HC.out]; simp only [Bool.false_eq_true, if_false]; omega
                  len := by rw [List.length_append]; exact Nat.succ_le_succ HX.out.len
                  row := by rw [List.length_append, ← flat_snoc]; exact hown'
                  bel := bel3
                  size := Nat.le_trans z2 hbw.size
                  sB := HX.out.sB, wB := HX.out.wB, bT := HX.out.bT, bA := HX.out.bA, bo := BO2.out }
              have k3 := keepc bel3 HQ2.out
              have FIN := Lib.hid F1
              clear hown' hgrow hbw bel3 s3 F1 hi hz0 hz1 hz2 r2 hdl k1 k2 z2 R2 S2 BEL2 BO2
              have KA := Lib.hid (all_any FIN.out.sp 3 (by decide))
              have hal := FIN.out.bk.all
              have hs8 := FIN.out.s8
              have hp4 := sum4_pos (done ++ [(t, false)])
              have hnv := FIN.out.nv
              injection hnv with _ hnv
              rw [hal] at KA
              obtain ⟨z, hz⟩ : ∃ z, z = sum4 (done ++ [(t, false)]) := ⟨_, rfl⟩
              rw [← hz] at KA hs8 hp4
              rw [← hnv] at hs8
              have g1 : c + 1 ≤ 8 := by omega
              have w2 : IntKind.i64.wrap (c + 1 + z) = c + 1 + z := IntWalk.i64_in _ (by omega)
              have g2 : c + 1 + z ≤ 8 := by omega
              have RR : Hid (BackE W w3 B S T A n0 (i + 1) (.int .i64 (c + 1)) v') := ⟨_, _, _, FIN.out⟩
              clear hal hs8 hp4 hz hnv FIN
              go_wp2_with fail
              refine KA.out.mono ?_
              rintro x w9 ⟨rfl, rfl⟩
              clear KA
              go_wp2
              go_round
              case rel => exact ⟨i + 1, by omega, by go_num, RR⟩
              case measure => simp [intOf]; omega
            · rw [decide_eq_false hmay] at KM
              clear hmay
              go_wp2_with fail
              refine KM.out.mono ?_
              rintro x wx ⟨rfl, hm⟩
              have bx := HP.out.trans (hm.mono HP.out.size)
              have FIN0 : BackS W wx B S T A n0 (i + 1) (.int .i64 c) u9 done o b := { HS.out with nv := by rw [← HC.out], sp := (HS.out.sp.below bx).mono (by omega), row := ownsRow_below' HS.out.row bx, bel := HS.out.bel.trans (bx.mono HS.out.bel.size), size := Nat.le_trans HS.out.size bx.size, len := Nat.le_succ_of_le HS.out.len }
              have HFIN := Lib.hid FIN0
              clear FIN0 hm bx HP KM HS
              have KA := Lib.hid (all_any HFIN.out.sp 3 (by decide))
              have hal := HFIN.out.bk.all
              have hs8 := HFIN.out.s8
              have hp4 := sum4_pos (done)
              have hnv := HFIN.out.nv
              injection hnv with _ hnv
              rw [hal] at KA
              obtain ⟨z, hz⟩ : ∃ z, z = sum4 (done) := ⟨_, rfl⟩
              rw [← hz] at KA hs8 hp4
              rw [← hnv] at hs8
              have g1 : c ≤ 8 := by omega
              have w2 : IntKind.i64.wrap (c + z) = c + z := IntWalk.i64_in _ (by omega)
              have g2 : c + z ≤ 8 := by omega
              have RR : Hid (BackE W wx B S T A n0 (i + 1) (.int .i64 (c)) u9) := ⟨_, _, _, HFIN.out⟩
              clear hal hs8 hp4 hz hnv HFIN
              go_wp2_with fail
              refine KA.out.mono ?_
              rintro x w9 ⟨rfl, rfl⟩
              clear KA
              go_wp2
              go_round
              case rel => exact ⟨i + 1, by omega, by go_num, RR⟩
              case measure => simp [intOf]; omega
        · have e : i = l.length := by omega
          subst e
          obtain ⟨done, o, b, hs1⟩ := hs.out
          have T0 : Hid (BackU W wr B n0 u8 u9 0 q.length) := ⟨done, { nv := hs1.nv, l4 := hs1.l4, s8 := hs1.s8, len := Nat.le_trans hs1.len hl80, row := hs1.row, bel := hs1.bel, size := hs1.size, wB := hs1.wB }, by have := hs1.len; omega⟩
          clear hs hs1 hlt
          go_wp2
          go_loopw [8, 9, 12] (fun nn dd ii w' => ∃ i : Nat, ii = .int .i64 i ∧ Hid (BackU W w' B n0 nn dd i q.length)) (fun _ dd ii _ => (q.length - (intOf ii).toNat) + lenOf dd)
          case atStart => exact ⟨0, rfl, T0⟩
          case round =>
            obtain ⟨i, rfl, hu⟩ := hrel
            rename World => wr
            clear T0
            obtain ⟨done, ht, hiq⟩ := hu.out
            clear hu
            have hnv := ht.nv
            obtain ⟨c, hc⟩ : ∃ c, c = cellsN n0 done := ⟨_, rfl⟩
            rw [← hc] at hnv
            subst hnv
            have hbd := cellsN_bound n0 done
            rw [← hc] at hbd
            have HC := Lib.hid hc
            clear hc
            have hdl := ht.len
            obtain ⟨L, hL⟩ : ∃ L, L = done.length := ⟨_, rfl⟩
            have c8 : c ≤ 8 := by have h8 := ht.s8; rw [← HC.out] at h8; have := sum4_pos done; omega
            by_cases h0 : 0 < done.length
            · obtain ⟨g, cap, hdd, hcap, hgB⟩ := row_some ht.row h0
              subst hdd
              rw [← hL] at hcap hdl hiq hbd h0 ⊢
              have HROW := Lib.hid ht.row
              have HT0 := ht
              rw [← hL] at HT0
              have HT := Lib.hid HT0
              have HLL := Lib.hid hL
              have ht4' := ht.l4
              obtain ⟨p, hp⟩ : ∃ p, p + 1 = L := ⟨L - 1, by omega⟩
              have hpl : p < done.length := by omega
              obtain ⟨x1, x2⟩ := row_cell ht.row p hpl
              have HL4 := Lib.hid (ht4' _ (getD_mem hpl))
              obtain ⟨y, hy⟩ : ∃ y, y = (done.getD p noMv).1 := ⟨_, rfl⟩
              have HPT := Lib.hid hy.symm
              rw [← hy] at x1 HL4
              have w0 : IntKind.i64.wrap ((L : Int) - 1) = (p : Int) := by rw [IntWalk.i64_in _ (by omega)]; omega
              have p0 : (p : Int) < (L : Int) := by omega
              have L0 : 0 < (L : Int) := by omega
              clear hL HT0 ht4' hpl ht hy x2 hgB
              by_cases hiq2 : i < q.length
              · obtain ⟨qb, qo, rfl, hqc⟩ : ∃ qb qo, qa = some ⟨qb, qo, none⟩ ∧ ∀ i, i < q.length → W.cell? ⟨qb, qo + i, none⟩ = some (.int .u8 (q.getD i 0 : Nat)) := by
                  rcases HQ.out with h | h
                  · rw [h] at hiq2; simp at hiq2
                  · exact h
                have qx := keepc HT.out.bel (hqc i hiq2)
                have qb8 := hq8 i hiq2
                obtain ⟨x, hx⟩ : ∃ x, x = q.getD i 0 := ⟨_, rfl⟩
                rw [← hx] at qx qb8
                obtain ⟨t, htt⟩ : ∃ t, t = x % 4 := ⟨_, rfl⟩
                have ht4 : t < 4 := by omega
                have e1 : ((x : Int)).tmod 4 = (t : Int) := by rw [htt]; rfl
                have hiq3 : (i : Int) < (q.length : Int) := by omega
                clear hqc hx htt qb8
                go_wp2
                go_loopw [14] (fun kk w' => wr = w' ∧ ∃ k : Int, -1 ≤ k ∧ k < (L : Int) ∧ kk = .int .i64 k ∧ Hid (NoMore done t k)) (fun kk _ => ((intOf kk) + 1).toNat)
                case atStart => exact ⟨rfl, (p : Int), by omega, by omega, rfl, NoMore.start done t p (by have := HLL.out; omega)⟩
                case round =>
                  obtain ⟨rfl, k, hk1, hk2, rfl, hno⟩ := hrel
                  by_cases hk0 : 0 ≤ k
                  · obtain ⟨kn, rfl⟩ := Int.eq_ofNat_of_zero_le hk0
                    have hkl : kn < done.length := by have := HLL.out; omega
                    obtain ⟨x1, x2⟩ := row_cell HROW.out kn hkl
                    by_cases hxt : (done.getD kn noMv).1 = t
                    · rw [hxt] at x1
                      have HSPLIT : Hid (done.take kn ++ (t, (done.getD kn noMv).2) :: done.drop (kn + 1) = done) := split_at hkl hxt
                      have HNO : Hid (NoMore done t kn) := hno
                      have hkL : kn < L := by omega
                      clear hno hxt hk0 hk1 hkl
                      cases htk : (done.getD kn noMv).2 with
                      | true =>
                        rw [htk] at x2 HSPLIT
                        clear htk
                        have c7 : c + 1 ≤ 8 := by
                          obtain ⟨k1, k2⟩ := back_le n0 (done.take kn) (done.drop (kn + 1)) (t, true) ht4 (fun x hx => HNO.out.drop x hx)
                          rw [HSPLIT.out, ← HC.out] at k1 k2
                          have h8 := HT.out.s8
                          rw [← HC.out] at h8
                          have hp := sum4_pos (done.take kn ++ done.drop (kn + 1))
                          simp only [if_true] at k1
                          omega
                        have w1 : IntKind.i64.wrap (c + 1) = c + 1 := IntWalk.i64_in _ (by omega)
                        have r1 := mv_to g L cap kn (by omega) hcap wr
                        have hi := HI.out
                        have hz0 := HZ0.out
                        have hz1 := HZ1.out
                        have hz2 := HZ2.out
                        go_wp2_with (first
                          | (at_builtin; refine wpList_append_own _ rfl _ _ 45 rfl B 48 i0 (.agg #[.int .u8 0, .bool false]) 2 2 Try.underlying45 hi hz0 hz1 hz2 rfl (by decide) (.slice none 0 0) 0 [] rfl ⟨rfl, .inl ⟨rfl, rfl⟩⟩ ⟨g, 0, none⟩ kn cap (flat (done.take kn)) rfl ?c1 ?c2 ?c3 ?c4 ?c5 ?c6 ?_)
                          | fail)
                        case c1 => rw [flat_len, List.length_take, Nat.min_eq_left (by have := HLL.out; omega)]
                        case c2 => exact row_src1 HROW.out kn (by have := HLL.out; omega)
                        case c3 => exact flat_one _
                        case c4 => unfold maxLen; omega
                        case c5 => omega
                        case c6 => exact HT.out.size
                        intro v1 w3 hown1 hgrow1 _
                        have hgr1 : wr.grownBy w3 none := hgrow1
                        have hb1 : Below B wr w3 := below_grown hgr1 (fun _ e => by cases e) HT.out.size
                        have row3 := HROW.out.kept hgr1 (.inr (by simp [Value.ownBlock]))
                        have r2 := mv_from g L cap (kn + 1) (by omega) w3
                        rw [show ((kn + 1 : Nat) : Int) = (kn : Int) + 1 by simp] at r2
                        have w5 : IntKind.i64.wrap ((kn : Int) + 1) = (kn : Int) + 1 := IntWalk.i64_in _ (by omega)
                        have ROW3 := Lib.hid row3
                        have HB1 := Lib.hid hb1
                        have z3 := Nat.le_trans HT.out.size hb1.size
                        clear hgrow1 hgr1 hb1 row3 r1
                        go_wp2_with (first
                          | (at_builtin; refine wpList_append_own _ rfl _ _ 45 rfl B 48 i0 (.agg #[.int .u8 0, .bool false]) 2 2 Try.underlying45 hi hz0 hz1 hz2 rfl (by decide) _ _ _ rfl hown1 (restAt g cap (kn + 1)) (L - (kn + 1)) (cap - (kn + 1)) (flat (done.drop (kn + 1))) rfl ?c1 ?c2 ?c3 ?c4 ?c5 ?c6 ?_)
                          | fail)
                        case c1 => rw [flat_len, List.length_drop, ← HLL.out]
                        case c2 => exact row_src2 ROW3.out (kn + 1) (by have := HLL.out; omega) (by rw [← HLL.out]; exact hcap)
                        case c3 => exact flat_one _
                        case c4 => unfold maxLen; omega
                        case c5 => omega
                        case c6 => exact z3
                        intro v2 w4 hown2 hgrow2 _
                        have hb2 : Below B w3 w4 := below_grown hgrow2 (fun k hk => (hown1.lt k hk).1) z3
                        have hlen : kn + (L - (kn + 1)) = (done.take kn ++ done.drop (kn + 1)).length := by
                          rw [List.length_append, List.length_take, List.length_drop, Nat.min_eq_left (by have := HLL.out; omega), ← HLL.out]
                        have hfl : flat (done.take kn) ++ flat (done.drop (kn + 1)) = flat (done.take kn ++ done.drop (kn + 1)) := by rw [flat_append]
                        rw [hlen, hfl] at hown2
                        have NT : BackT W w4 B n0 (.int .i64 (c + 1)) v2 (done.take kn ++ done.drop (kn + 1)) := by
                          obtain ⟨k1, k2⟩ := back_le n0 (done.take kn) (done.drop (kn + 1)) (t, true) ht4 (fun x hx => HNO.out.drop x hx)
                          rw [HSPLIT.out, ← HC.out] at k1 k2
                          exact {
                            nv := by rw [k1]; rfl
                            l4 := fun x hx => by
                              rcases List.mem_append.1 hx with hx | hx
                              · exact HT.out.l4 x (List.mem_of_mem_take hx)
                              · exact HT.out.l4 x (List.mem_of_mem_drop hx)
                            s8 := Int.le_trans k2 (by have := HT.out.s8; rw [← HC.out] at this; exact this)
                            len := by rw [← hlen]; omega
                            row := hown2
                            bel := (HT.out.bel.trans (HB1.out.mono HT.out.wB)).trans (hb2.mono HT.out.wB)
                            size := Nat.le_trans z3 hb2.size
                            wB := HT.out.wB }
                        have hL1 : (done.take kn ++ done.drop (kn + 1)).length = L - 1 := by rw [← hlen]; omega
                        have NU : Hid (BackU W w4 B n0 (.int .i64 (c + 1)) v2 (i + 1) q.length) := ⟨_, NT, by rw [hL1]; omega⟩
                        obtain ⟨a2, c2, hv2⟩ := row_form hown2
                        rw [hL1] at hv2
                        subst hv2
                        clear hown1 hown2 hgrow2 hb2 hlen hfl NT hL1 r2 ROW3 HB1 z3 hi hz0 hz1 hz2
                        have w6 : IntKind.i64.wrap ((i : Int) + 1) = (i : Int) + 1 := IntWalk.i64_in _ (by omega)
                        go_wp2
                        go_round
                        case rel => exact ⟨i + 1, by go_num, NU⟩
                        case measure => simp [intOf, lenOf]; omega
                      | false =>
                        rw [htk] at x2 HSPLIT
                        clear htk
                        have c7 : c - 1 ≤ 8 := by omega
                        have w1 : IntKind.i64.wrap (c - 1) = c - 1 := IntWalk.i64_in _ (by omega)
                        have r1 := mv_to g L cap kn (by omega) hcap wr
                        have hi := HI.out
                        have hz0 := HZ0.out
                        have hz1 := HZ1.out
                        have hz2 := HZ2.out
                        go_wp2_with (first
                          | (at_builtin; refine wpList_append_own _ rfl _ _ 45 rfl B 48 i0 (.agg #[.int .u8 0, .bool false]) 2 2 Try.underlying45 hi hz0 hz1 hz2 rfl (by decide) (.slice none 0 0) 0 [] rfl ⟨rfl, .inl ⟨rfl, rfl⟩⟩ ⟨g, 0, none⟩ kn cap (flat (done.take kn)) rfl ?c1 ?c2 ?c3 ?c4 ?c5 ?c6 ?_)
                          | fail)
                        case c1 => rw [flat_len, List.length_take, Nat.min_eq_left (by have := HLL.out; omega)]
                        case c2 => exact row_src1 HROW.out kn (by have := HLL.out; omega)
                        case c3 => exact flat_one _
                        case c4 => unfold maxLen; omega
                        case c5 => omega
                        case c6 => exact HT.out.size
                        intro v1 w3 hown1 hgrow1 _
                        have hgr1 : wr.grownBy w3 none := hgrow1
                        have hb1 : Below B wr w3 := below_grown hgr1 (fun _ e => by cases e) HT.out.size
                        have row3 := HROW.out.kept hgr1 (.inr (by simp [Value.ownBlock]))
                        have r2 := mv_from g L cap (kn + 1) (by omega) w3
                        rw [show ((kn + 1 : Nat) : Int) = (kn : Int) + 1 by simp] at r2
                        have w5 : IntKind.i64.wrap ((kn : Int) + 1) = (kn : Int) + 1 := IntWalk.i64_in _ (by omega)
                        have ROW3 := Lib.hid row3
                        have HB1 := Lib.hid hb1
                        have z3 := Nat.le_trans HT.out.size hb1.size
                        clear hgrow1 hgr1 hb1 row3 r1
                        go_wp2_with (first
                          | (at_builtin; refine wpList_append_own _ rfl _ _ 45 rfl B 48 i0 (.agg #[.int .u8 0, .bool false]) 2 2 Try.underlying45 hi hz0 hz1 hz2 rfl (by decide) _ _ _ rfl hown1 (restAt g cap (kn + 1)) (L - (kn + 1)) (cap - (kn + 1)) (flat (done.drop (kn + 1))) rfl ?c1 ?c2 ?c3 ?c4 ?c5 ?c6 ?_)
                          | fail)
                        case c1 => rw [flat_len, List.length_drop, ← HLL.out]
                        case c2 => exact row_src2 ROW3.out (kn + 1) (by have := HLL.out; omega) (by rw [← HLL.out]; exact hcap)
                        case c3 => exact flat_one _
                        case c4 => unfold maxLen; omega
                        case c5 => omega
                        case c6 => exact z3
                        intro v2 w4 hown2 hgrow2 _
                        have hb2 : Below B w3 w4 := below_grown hgrow2 (fun k hk => (hown1.lt k hk).1) z3
                        have hlen : kn + (L - (kn + 1)) = (done.take kn ++ done.drop (kn + 1)).length := by
                          rw [List.length_append, List.length_take, List.length_drop, Nat.min_eq_left (by have := HLL.out; omega), ← HLL.out]
                        have hfl : flat (done.take kn) ++ flat (done.drop (kn + 1)) = flat (done.take kn ++ done.drop (kn + 1)) := by rw [flat_append]
                        rw [hlen, hfl] at hown2
                        have NT : BackT W w4 B n0 (.int .i64 (c - 1)) v2 (done.take kn ++ done.drop (kn + 1)) := by
                          obtain ⟨k1, k2⟩ := back_le n0 (done.take kn) (done.drop (kn + 1)) (t, false) ht4 (fun x hx => HNO.out.drop x hx)
                          rw [HSPLIT.out, ← HC.out] at k1 k2
                          exact {
                            nv := by rw [k1]; rfl
                            l4 := fun x hx => by
                              rcases List.mem_append.1 hx with hx | hx
                              · exact HT.out.l4 x (List.mem_of_mem_take hx)
                              · exact HT.out.l4 x (List.mem_of_mem_drop hx)
                            s8 := Int.le_trans k2 (by have := HT.out.s8; rw [← HC.out] at this; exact this)
                            len := by rw [← hlen]; omega
                            row := hown2
                            bel := (HT.out.bel.trans (HB1.out.mono HT.out.wB)).trans (hb2.mono HT.out.wB)
                            size := Nat.le_trans z3 hb2.size
                            wB := HT.out.wB }
                        have hL1 : (done.take kn ++ done.drop (kn + 1)).length = L - 1 := by rw [← hlen]; omega
                        have NU : Hid (BackU W w4 B n0 (.int .i64 (c - 1)) v2 (i + 1) q.length) := ⟨_, NT, by rw [hL1]; omega⟩
                        obtain ⟨a2, c2, hv2⟩ := row_form hown2
                        rw [hL1] at hv2
                        subst hv2
                        clear hown1 hown2 hgrow2 hb2 hlen hfl NT hL1 r2 ROW3 HB1 z3 hi hz0 hz1 hz2
                        have w6 : IntKind.i64.wrap ((i : Int) + 1) = (i : Int) + 1 := IntWalk.i64_in _ (by omega)
                        go_wp2
                        go_round
                        case rel => exact ⟨i + 1, by go_num, NU⟩
                        case measure => simp [intOf, lenOf]; omega
                    · have hne : ¬ ((done.getD kn noMv).1 : Int) = (t : Int) := fun e => hxt (by omega)
                      have HN : Hid (NoMore done t ((kn : Int) - 1)) := hno.out.step hxt
                      obtain ⟨y, hy⟩ : ∃ y, y = (done.getD kn noMv).1 := ⟨_, rfl⟩
                      rw [← hy] at x1 hne
                      have w1 : IntKind.i64.wrap ((kn : Int) - 1) = (kn : Int) - 1 := IntWalk.i64_in _ (by omega)
                      clear hno hxt hy x2
                      go_wp2
                      go_round
                      case rel => exact ⟨trivial, (kn : Int) - 1, by omega, by omega, rfl, HN⟩
                      case measure => simp [intOf]
                  · have e : k = -1 := by omega
                    subst e
                    have NU : Hid (BackU W wr B n0 (.int .i64 c) (.slice (some ⟨g, 0, none⟩) L cap) (i + 1) q.length) := ⟨done, HT.out, by have := HLL.out; omega⟩
                    have w6 : IntKind.i64.wrap ((i : Int) + 1) = (i : Int) + 1 := IntWalk.i64_in _ (by omega)
                    go_wp2
                    go_round
                    case rel => exact ⟨i + 1, by go_num, NU⟩
                    case measure => simp [intOf, lenOf]; omega
              · have ht4 : y < 4 := HL4.out
                obtain ⟨t, htt⟩ : ∃ t, t = y := ⟨_, rfl⟩
                subst htt
                have hiq3 : (q.length : Int) ≤ (i : Int) := by omega
                go_wp2
                go_loopw [14] (fun kk w' => wr = w' ∧ ∃ k : Int, -1 ≤ k ∧ k < (L : Int) ∧ kk = .int .i64 k ∧ Hid (NoMore done t k)) (fun kk _ => ((intOf kk) + 1).toNat)
                case atStart => exact ⟨rfl, (p : Int), by omega, by omega, rfl, NoMore.start done t p (by have := HLL.out; omega)⟩
                case round =>
                  obtain ⟨rfl, k, hk1, hk2, rfl, hno⟩ := hrel
                  by_cases hk0 : 0 ≤ k
                  · obtain ⟨kn, rfl⟩ := Int.eq_ofNat_of_zero_le hk0
                    have hkl : kn < done.length := by have := HLL.out; omega
                    obtain ⟨x1, x2⟩ := row_cell HROW.out kn hkl
                    by_cases hxt : (done.getD kn noMv).1 = t
                    · rw [hxt] at x1
                      have HSPLIT : Hid (done.take kn ++ (t, (done.getD kn noMv).2) :: done.drop (kn + 1) = done) := split_at hkl hxt
                      have HNO : Hid (NoMore done t kn) := hno
                      have hkL : kn < L := by omega
                      clear hno hxt hk0 hk1 hkl
                      cases htk : (done.getD kn noMv).2 with
                      | true =>
                        rw [htk] at x2 HSPLIT
                        clear htk
                        have c7 : c + 1 ≤ 8 := by
                          obtain ⟨k1, k2⟩ := back_le n0 (done.take kn) (done.drop (kn + 1)) (t, true) ht4 (fun x hx => HNO.out.drop x hx)
                          rw [HSPLIT.out, ← HC.out] at k1 k2
                          have h8 := HT.out.s8
                          rw [← HC.out] at h8
                          have hp := sum4_pos (done.take kn ++ done.drop (kn + 1))
                          simp only [if_true] at k1
                          omega
                        have w1 : IntKind.i64.wrap (c + 1) = c + 1 := IntWalk.i64_in _ (by omega)
                        have r1 := mv_to g L cap kn (by omega) hcap wr
                        have hi := HI.out
                        have hz0 := HZ0.out
                        have hz1 := HZ1.out
                        have hz2 := HZ2.out
                        go_wp2_with (first
                          | (at_builtin; refine wpList_append_own _ rfl _ _ 45 rfl B 48 i0 (.agg #[.int .u8 0, .bool false]) 2 2 Try.underlying45 hi hz0 hz1 hz2 rfl (by decide) (.slice none 0 0) 0 [] rfl ⟨rfl, .inl ⟨rfl, rfl⟩⟩ ⟨g, 0, none⟩ kn cap (flat (done.take kn)) rfl ?c1 ?c2 ?c3 ?c4 ?c5 ?c6 ?_)
                          | fail)
                        case c1 => rw [flat_len, List.length_take, Nat.min_eq_left (by have := HLL.out; omega)]
                        case c2 => exact row_src1 HROW.out kn (by have := HLL.out; omega)
                        case c3 => exact flat_one _
                        case c4 => unfold maxLen; omega
                        case c5 => omega
                        case c6 => exact HT.out.size
                        intro v1 w3 hown1 hgrow1 _
                        have hgr1 : wr.grownBy w3 none := hgrow1
                        have hb1 : Below B wr w3 := below_grown hgr1 (fun _ e => by cases e) HT.out.size
                        have row3 := HROW.out.kept hgr1 (.inr (by simp [Value.ownBlock]))
                        have r2 := mv_from g L cap (kn + 1) (by omega) w3
                        rw [show ((kn + 1 : Nat) : Int) = (kn : Int) + 1 by simp] at r2
                        have w5 : IntKind.i64.wrap ((kn : Int) + 1) = (kn : Int) + 1 := IntWalk.i64_in _ (by omega)
                        have ROW3 := Lib.hid row3
                        have HB1 := Lib.hid hb1
                        have z3 := Nat.le_trans HT.out.size hb1.size
                        clear hgrow1 hgr1 hb1 row3 r1
                        go_wp2_with (first
                          | (at_builtin; refine wpList_append_own _ rfl _ _ 45 rfl B 48 i0 (.agg #[.int .u8 0, .bool false]) 2 2 Try.underlying45 hi hz0 hz1 hz2 rfl (by decide) _ _ _ rfl hown1 (restAt g cap (kn + 1)) (L - (kn + 1)) (cap - (kn + 1)) (flat (done.drop (kn + 1))) rfl ?c1 ?c2 ?c3 ?c4 ?c5 ?c6 ?_)
                          | fail)
                        case c1 => rw [flat_len, List.length_drop, ← HLL.out]
                        case c2 => exact row_src2 ROW3.out (kn + 1) (by have := HLL.out; omega) (by rw [← HLL.out]; exact hcap)
                        case c3 => exact flat_one _
                        case c4 => unfold maxLen; omega
                        case c5 => omega
                        case c6 => exact z3
                        intro v2 w4 hown2 hgrow2 _
                        have hb2 : Below B w3 w4 := below_grown hgrow2 (fun k hk => (hown1.lt k hk).1) z3
                        have hlen : kn + (L - (kn + 1)) = (done.take kn ++ done.drop (kn + 1)).length := by
                          rw [List.length_append, List.length_take, List.length_drop, Nat.min_eq_left (by have := HLL.out; omega), ← HLL.out]
                        have hfl : flat (done.take kn) ++ flat (done.drop (kn + 1)) = flat (done.take kn ++ done.drop (kn + 1)) := by rw [flat_append]
                        rw [hlen, hfl] at hown2
                        have NT : BackT W w4 B n0 (.int .i64 (c + 1)) v2 (done.take kn ++ done.drop (kn + 1)) := by
                          obtain ⟨k1, k2⟩ := back_le n0 (done.take kn) (done.drop (kn + 1)) (t, true) ht4 (fun x hx => HNO.out.drop x hx)
                          rw [HSPLIT.out, ← HC.out] at k1 k2
                          exact {
                            nv := by rw [k1]; rfl
                            l4 := fun x hx => by
                              rcases List.mem_append.1 hx with hx | hx
                              · exact HT.out.l4 x (List.mem_of_mem_take hx)
                              · exact HT.out.l4 x (List.mem_of_mem_drop hx)
                            s8 := Int.le_trans k2 (by have := HT.out.s8; rw [← HC.out] at this; exact this)
                            len := by rw [← hlen]; omega
                            row := hown2
                            bel := (HT.out.bel.trans (HB1.out.mono HT.out.wB)).trans (hb2.mono HT.out.wB)
                            size := Nat.le_trans z3 hb2.size
                            wB := HT.out.wB }
                        have hL1 : (done.take kn ++ done.drop (kn + 1)).length = L - 1 := by rw [← hlen]; omega
                        have NU : Hid (BackU W w4 B n0 (.int .i64 (c + 1)) v2 (i + 1) q.length) := ⟨_, NT, by rw [hL1]; omega⟩
                        obtain ⟨a2, c2, hv2⟩ := row_form hown2
                        rw [hL1] at hv2
                        subst hv2
                        clear hown1 hown2 hgrow2 hb2 hlen hfl NT hL1 r2 ROW3 HB1 z3 hi hz0 hz1 hz2
                        have w6 : IntKind.i64.wrap ((i : Int) + 1) = (i : Int) + 1 := IntWalk.i64_in _ (by omega)
                        go_wp2
                        go_round
                        case rel => exact ⟨i + 1, by go_num, NU⟩
                        case measure => simp [intOf, lenOf]; omega
                      | false =>
                        rw [htk] at x2 HSPLIT
                        clear htk
                        have c7 : c - 1 ≤ 8 := by omega
                        have w1 : IntKind.i64.wrap (c - 1) = c - 1 := IntWalk.i64_in _ (by omega)
                        have r1 := mv_to g L cap kn (by omega) hcap wr
                        have hi := HI.out
                        have hz0 := HZ0.out
                        have hz1 := HZ1.out
                        have hz2 := HZ2.out
                        go_wp2_with (first
                          | (at_builtin; refine wpList_append_own _ rfl _ _ 45 rfl B 48 i0 (.agg #[.int .u8 0, .bool false]) 2 2 Try.underlying45 hi hz0 hz1 hz2 rfl (by decide) (.slice none 0 0) 0 [] rfl ⟨rfl, .inl ⟨rfl, rfl⟩⟩ ⟨g, 0, none⟩ kn cap (flat (done.take kn)) rfl ?c1 ?c2 ?c3 ?c4 ?c5 ?c6 ?_)
                          | fail)
                        case c1 => rw [flat_len, List.length_take, Nat.min_eq_left (by have := HLL.out; omega)]
                        case c2 => exact row_src1 HROW.out kn (by have := HLL.out; omega)
                        case c3 => exact flat_one _
                        case c4 => unfold maxLen; omega
                        case c5 => omega
                        case c6 => exact HT.out.size
                        intro v1 w3 hown1 hgrow1 _
                        have hgr1 : wr.grownBy w3 none := hgrow1
                        have hb1 : Below B wr w3 := below_grown hgr1 (fun _ e => by cases e) HT.out.size
                        have row3 := HROW.out.kept hgr1 (.inr (by simp [Value.ownBlock]))
                        have r2 := mv_from g L cap (kn + 1) (by omega) w3
                        rw [show ((kn + 1 : Nat) : Int) = (kn : Int) + 1 by simp] at r2
                        have w5 : IntKind.i64.wrap ((kn : Int) + 1) = (kn : Int) + 1 := IntWalk.i64_in _ (by omega)
                        have ROW3 := Lib.hid row3
                        have HB1 := Lib.hid hb1
                        have z3 := Nat.le_trans HT.out.size hb1.size
                        clear hgrow1 hgr1 hb1 row3 r1
                        go_wp2_with (first
                          | (at_builtin; refine wpList_append_own _ rfl _ _ 45 rfl B 48 i0 (.agg #[.int .u8 0, .bool false]) 2 2 Try.underlying45 hi hz0 hz1 hz2 rfl (by decide) _ _ _ rfl hown1 (restAt g cap (kn + 1)) (L - (kn + 1)) (cap - (kn + 1)) (flat (done.drop (kn + 1))) rfl ?c1 ?c2 ?c3 ?c4 ?c5 ?c6 ?_)
                          | fail)
                        case c1 => rw [flat_len, List.length_drop, ← HLL.out]
                        case c2 => exact row_src2 ROW3.out (kn + 1) (by have := HLL.out; omega) (by rw [← HLL.out]; exact hcap)
                        case c3 => exact flat_one _
                        case c4 => unfold maxLen; omega
                        case c5 => omega
                        case c6 => exact z3
                        intro v2 w4 hown2 hgrow2 _
                        have hb2 : Below B w3 w4 := below_grown hgrow2 (fun k hk => (hown1.lt k hk).1) z3
                        have hlen : kn + (L - (kn + 1)) = (done.take kn ++ done.drop (kn + 1)).length := by
                          rw [List.length_append, List.length_take, List.length_drop, Nat.min_eq_left (by have := HLL.out; omega), ← HLL.out]
                        have hfl : flat (done.take kn) ++ flat (done.drop (kn + 1)) = flat (done.take kn ++ done.drop (kn + 1)) := by rw [flat_append]
                        rw [hlen, hfl] at hown2
                        have NT : BackT W w4 B n0 (.int .i64 (c - 1)) v2 (done.take kn ++ done.drop (kn + 1)) := by
                          obtain ⟨k1, k2⟩ := back_le n0 (done.take kn) (done.drop (kn + 1)) (t, false) ht4 (fun x hx => HNO.out.drop x hx)
                          rw [HSPLIT.out, ← HC.out] at k1 k2
                          exact {
                            nv := by rw [k1]; rfl
                            l4 := fun x hx => by
                              rcases List.mem_append.1 hx with hx | hx
                              · exact HT.out.l4 x (List.mem_of_mem_take hx)
                              · exact HT.out.l4 x (List.mem_of_mem_drop hx)
                            s8 := Int.le_trans k2 (by have := HT.out.s8; rw [← HC.out] at this; exact this)
                            len := by rw [← hlen]; omega
                            row := hown2
                            bel := (HT.out.bel.trans (HB1.out.mono HT.out.wB)).trans (hb2.mono HT.out.wB)
                            size := Nat.le_trans z3 hb2.size
                            wB := HT.out.wB }
                        have hL1 : (done.take kn ++ done.drop (kn + 1)).length = L - 1 := by rw [← hlen]; omega
                        have NU : Hid (BackU W w4 B n0 (.int .i64 (c - 1)) v2 (i + 1) q.length) := ⟨_, NT, by rw [hL1]; omega⟩
                        obtain ⟨a2, c2, hv2⟩ := row_form hown2
                        rw [hL1] at hv2
                        subst hv2
                        clear hown1 hown2 hgrow2 hb2 hlen hfl NT hL1 r2 ROW3 HB1 z3 hi hz0 hz1 hz2
                        have w6 : IntKind.i64.wrap ((i : Int) + 1) = (i : Int) + 1 := IntWalk.i64_in _ (by omega)
                        go_wp2
                        go_round
                        case rel => exact ⟨i + 1, by go_num, NU⟩
                        case measure => simp [intOf, lenOf]; omega
                    · have hne : ¬ ((done.getD kn noMv).1 : Int) = (t : Int) := fun e => hxt (by omega)
                      have HN : Hid (NoMore done t ((kn : Int) - 1)) := hno.out.step hxt
                      obtain ⟨y, hy⟩ : ∃ y, y = (done.getD kn noMv).1 := ⟨_, rfl⟩
                      rw [← hy] at x1 hne
                      have w1 : IntKind.i64.wrap ((kn : Int) - 1) = (kn : Int) - 1 := IntWalk.i64_in _ (by omega)
                      clear hno hxt hy x2
                      go_wp2
                      go_round
                      case rel => exact ⟨trivial, (kn : Int) - 1, by omega, by omega, rfl, HN⟩
                      case measure => simp [intOf]
                  · exact absurd HPT.out (hno.out p (by omega) (by have := HLL.out; omega))
            · have hnil : done = [] := List.length_eq_zero_iff.1 (by omega)
              obtain ⟨a0, c0, hdd⟩ := row_form ht.row
              subst hdd
              have hcn : c = n0 := by have h := HC.out; rw [hnil] at h; exact h
              subst hcn
              have hbel := Lib.hid ht.bel
              rw [hnil]
              clear ht hnil HC h0 hL
              go_wp2
              go_ret
              exact ⟨rfl, hbel.out⟩
end Go.Proofs.Ytjjbdkgnkieliaa
