/-
  THE CONTRACT OF a book's Done.
-/
import Derived.Test.YtjjbdkgnkieliaaSpPut
import Derived.Laws.IdiomRangeMap
namespace Go.Proofs.Ytjjbdkgnkieliaa
open Go.RowKit Go.Maps Go.ChangeMaps Go.MapKept Go.WideElems
theorem len_le_of_sub {α : Type} [DecidableEq α] : ∀ (K M : List α), K.Pairwise (· ≠ ·) → (∀ x ∈ K, x ∈ M) → K.length ≤ M.length
  | [], _, _, _ => Nat.zero_le _
  | x :: K, M, h, hs => by
    obtain ⟨h1, h2⟩ := List.pairwise_cons.1 h
    have hx : x ∈ M := hs x (by simp)
    have ih := len_le_of_sub K (M.erase x) h2 (fun y hy => (List.mem_erase_of_ne (fun e => h1 y hy e.symm)).2 (hs y (by simp [hy])))
    rw [List.length_erase_of_mem hx] at ih
    have := List.length_pos_of_mem hx
    simp only [List.length_cons]
    omega
/-- A tally in which no number is new takes no more room. -/
theorem TalAt.shrink {W W' : World} {M M' n n' : Nat} {f f' : Int → Int} (h : TalAt W M n f) (h' : TalAt W' M' n' f') (hs : ∀ i, f' i ≠ 0 → f i ≠ 0) : TalAt W' M' n f' := by
  obtain ⟨D, d1, _, d3⟩ := h
  obtain ⟨D', e1, e2, e3⟩ := h'
  refine ⟨D', ?_, e2, e3⟩
  have hz : size D' ≤ n := by
    refine Nat.le_trans ?_ d1.size_le
    obtain ⟨es, hD, _⟩ := int_entries Try.underlying3 d1
    obtain ⟨es', hD', hk'⟩ := int_entries Try.underlying3 e1
    obtain ⟨es2, hD2, hp, _⟩ := e1.entries keyLaw
    have e22 : es' = es2 := by rw [hD'] at hD2; injection hD2
    subst e22
    rw [hD, hD', size_eq, size_eq]
    have hlen : (es'.map Prod.fst).length ≤ (es.map Prod.fst).length := by
     classical
     refine len_le_of_sub _ _ (List.pairwise_map.2 hp) fun x hx => ?_
     obtain ⟨p, hpm, rfl⟩ := List.mem_map.1 hx
     obtain ⟨i, hi⟩ := hk' p hpm
     have h1 : has D' (.int .i64 i) = true := by
       rw [hD', has_eq]
       exact List.any_eq_true.2 ⟨p, hpm, by rw [hi]; exact WideAt.sameKey_self (show WideAt.IsKeyLit (.int .i64 i) from trivial)⟩
     rw [e3] at h1
     have h2 : has D (.int .i64 i) = true := by rw [d3]; simpa using hs i (by simpa using h1)
     rw [hD, has_eq] at h2
     obtain ⟨r, hr, hrk⟩ := List.any_eq_true.1 h2
     have := WideAt.sameKey_eq hrk
     rw [hi, ← this]
     exact List.mem_map.2 ⟨r, hr, rfl⟩
    simpa using hlen
  obtain ⟨es, clock, hb, F, _, hD⟩ := e1
  refine ⟨es, clock, hb, F, ?_, hD⟩
  rw [hD] at hz
  simpa [Maps.size, length_sorted] using hz
def doneB1 (t : Int) (b : Book) : Book := (fun t' => if t' = t then (fun _ => 0) else b.1 t', fun q => b.2 q - b.1 t q)
def doneB (b : Book) (l : List Int) : Book := l.foldl (fun b t => doneB1 t b) b
/-- All's tally while a transaction's is taken off. -/
def midA (b : Book) (t : Int) (left : Lit → Bool) : Int → Int := fun q => b.2 q - if left (.int .i64 q) then 0 else b.1 t q
section
variable {W W' : World} {S T A n : Nat} {o : Int → Option Nat} {g : Int → Int → Int} {a : Int → Int}
theorem SpIn.setAll (h : SpIn W S T A n o g a) {a' : Int → Int} (hg : W.grownBy W' (some A)) (ht : TalAt W' A n a') (hz : ∀ q, 0 ≤ a' q ∧ a' q ≤ n) : SpIn W' S T A n o g a' := by
  obtain ⟨l1, l2, l3, l4⟩ := h.lts
  have key : ∀ k, k < W.heap.size → k ≠ A → W'.heap[k]? = W.heap[k]? := fun k hk hx => hg.block k hk (by intro e; injection e with e; exact hx e)
  exact { h with
    c0 := (World.cell?_of_block (a := ⟨S, 0, none⟩) (key S l1 h.sa)).trans h.c0
    c1 := (World.cell?_of_block (a := ⟨S, 1, none⟩) (key S l1 h.sa)).trans h.c1
    ot := h.ot.of_block (key T l2 h.ta)
    al := ht
    inn := fun t' b' e => (h.inn t' b' e).of_block (key b' (l4 t' b' e) (h.tb t' b' e).2.2)
    ab := hz }
/-- A transaction is forgotten. -/
theorem SpIn.forget (h : SpIn W S T A n o g a) {t : Int} (hg : W.grownBy W' (some T)) (ht : OutAt W' T n (updO o t none)) : SpIn W' S T A n (updO o t none) (fun t' => if t' = t then (fun _ => 0) else g t') a := by
  obtain ⟨l1, l2, l3, l4⟩ := h.lts
  have key : ∀ k, k < W.heap.size → k ≠ T → W'.heap[k]? = W.heap[k]? := fun k hk hx => hg.block k hk (by intro e; injection e with e; exact hx e)
  have hx : ∀ t' b', updO o t none t' = some b' → o t' = some b' ∧ t' ≠ t := fun t' b' e => by
    unfold updO at e; split at e
    · cases e
    · rename_i e1; exact ⟨e, e1⟩
  exact { h with
    c0 := (World.cell?_of_block (a := ⟨S, 0, none⟩) (key S l1 h.st)).trans h.c0
    c1 := (World.cell?_of_block (a := ⟨S, 1, none⟩) (key S l1 h.st)).trans h.c1
    ot := ht
    al := h.al.of_block (key A l3 (fun e => h.ta e.symm))
    inn := fun t' b' e => by
      obtain ⟨e1, e2⟩ := hx t' b' e
      rw [if_neg e2]
      exact (h.inn t' b' e1).of_block (key b' (l4 t' b' e1) (h.tb t' b' e1).2.1)
    non := fun t' e q => by
      by_cases e1 : t' = t
      · rw [if_pos e1]
      · rw [if_neg e1]; unfold updO at e; rw [if_neg e1] at e; exact h.non t' e q
    gb := fun t' q => by
      split
      · exact ⟨Int.le_refl _, by show (0 : Int) ≤ n; omega⟩
      · exact h.gb t' q
    tb := fun t' b' e => h.tb t' b' (hx t' b' e).1
    inj := fun t1 t2 b' e1 e2 => h.inj t1 t2 b' (hx t1 b' e1).1 (hx t2 b' e2).1 }
end
/-- While a transaction's tally is ranged over. -/
structure DnW (W w : World) (S T A n r : Nat) (o : Int → Option Nat) (b : Book) (t : Int) (x : Nat) (D : DataW Unit) (left : Lit → Bool) (cnt : Nat) : Prop where
  rg : w.ranges Try.prog 3 (plainElem (H := Unit) Try.prog 3) x r n D left cnt
  sp : SpIn w S T A n o b.1 (midA b t left)
  fr : SpFr W w T A o o
  rx : r ≠ S ∧ r ≠ T ∧ r ≠ A ∧ ∀ t, o t ≠ some r
  rW : W.heap.size ≤ r
theorem midA_start {b : Book} {t : Int} {D : DataW Unit} (h : ∀ i, has D (.int .i64 i) = decide (b.1 t i ≠ 0)) : midA b t (Maps.has D) = b.2 := by
  funext q
  unfold midA
  rw [h q]
  by_cases e : b.1 t q = 0 <;> simp [e]
theorem midA_end {b : Book} {t : Int} {left : Lit → Bool} (h : ∀ kl, left kl = false) : midA b t left = (doneB1 t b).2 := by
  funext q
  unfold midA doneB1
  simp [h]
theorem midA_step {b : Book} {t x : Int} {left : Lit → Bool} (h : left (.int .i64 x) = true) : updI (midA b t left) x (midA b t left x + -b.1 t x) = midA b t (fun z => left z && !z.sameKey (.int .i64 x)) := by
  funext q
  unfold updI
  by_cases e : q = x
  · subst e
    have hs : (Lit.int .i64 q).sameKey (.int .i64 q) = true := WideAt.sameKey_self (show WideAt.IsKeyLit (.int .i64 q) from trivial)
    unfold midA
    simp [h, hs]
    omega
  · have hs : (Lit.int .i64 q).sameKey (.int .i64 x) = false := sameKey_ne (by intro y; injection y with _ y; exact e y)
    rw [if_neg e]
    unfold midA
    simp [hs]
theorem midA_pos {b : Book} {t : Int} {left : Lit → Bool} {n : Nat} (h0 : ∀ q, 0 ≤ b.1 t q) (hle : ∀ q, b.1 t q ≤ b.2 q) (hn : ∀ q, b.2 q ≤ n) : ∀ q, 0 ≤ midA b t left q ∧ midA b t left q ≤ n := fun q => by
  have h1 := h0 q
  have h2 := hle q
  have h3 := hn q
  unfold midA; split <;> constructor <;> omega
set_option maxRecDepth 100000 in
set_option maxHeartbeats 8000000 in
theorem done_one {W : World} {S T A n : Nat} {o : Int → Option Nat} {b : Book} (h : SpIn W S T A n o b.1 b.2) (t : Int) (ht : (Lit.int .i64 t).wf = true) (hle : ∀ q, b.1 t q ≤ b.2 q) (g off cap : Nat) (hl : W.cell? ⟨g, off, none⟩ = some (.int .i64 t)) (hn : n ≤ 1000000) :
    Calls Try.prog 19 #[.pointer (some ⟨S, 0, none⟩), .slice (some ⟨g, off, none⟩) 1 cap] W fun e w' => e = .returned (.tuple #[]) ∧ Hid (SpB W w' S T A n o (doneB1 t b)) := by
  have KM := Lib.hid (made_yes h.c0)
  have hc0 := h.c0
  have hlk := h.ot.look t ht
  have hfd := @field_need
  cases ho : o t with
  | none =>
    rw [ho] at hlk
    have hnr : ∀ w : World, (Instr.range 55 (.map none)).run Try.prog w = .ok (.pointer (some ⟨w.heap.size, 0, none⟩)) (w.alloc (.mapIter none 0 #[] 0)) := fun w => run_range_nilMap w _ _ _ Try.underlying55
    have hnn := @run_next_nilMap Try.prog
    have bel0 : Below W.heap.size W (W.alloc (.mapIter none 0 #[] 0)) := (Below.refl _ _).alloc (Nat.le_refl _) _
    have s0 := h.below bel0
    have c0 := s0.c0
    obtain ⟨w2, hdel, ot2, gd, zd⟩ := s0.ot.drop t ht 0
    have s2 := s0.forget gd ot2
    have f2 : SpFr W w2 T A o (updO o t none) := (SpFr.of_below bel0).trans ⟨gd.os, gd.tape, gd.output, gd.size, fun k hk h3 _ _ => gd.block k hk (by intro e; injection e with e; exact h3 e), fun t' b' e => .inl (by
      unfold updO at e; split at e
      · cases e
      · exact e)⟩
    have e2 : b.2 = (doneB1 t b).2 := by
      funext q
      show b.2 q = b.2 q - b.1 t q
      rw [h.non t ho q, Int.sub_zero]
    rw [e2] at s2
    have hR : Hid (SpB W w2 S T A n o (doneB1 t b)) := ⟨_, s2, f2⟩
    clear s2 f2 ot2 gd zd s0 bel0 e2 h hle
    go_enter Try.func19, Try.ntmps19
    go_wp2_with fail
    refine KM.out.mono ?_
    rintro y w1 ⟨rfl, rfl⟩
    clear KM
    go_wp2
    go_loopw [13] (fun i w' => (W = w' ∧ i = .int .i64 0) ∨ (i = .int .i64 1 ∧ Hid (SpB W w' S T A n o (doneB1 t b)))) (fun i _ => 1 - (intOf i).toNat)
    case atStart => exact .inl ⟨rfl, rfl⟩
    case round =>
      rcases hrel with ⟨rfl, rfl⟩ | ⟨rfl, hs⟩
      · go_wp2
        go_loopw [6] (fun _ wi => W.alloc (.mapIter none 0 #[] 0) = wi) (fun _ _ => 0)
        case atStart => rfl
        case round =>
          subst hrel
          go_wp2
          go_round
          case rel => exact .inr ⟨by go_num, hR⟩
          case measure => simp [intOf]
      · go_wp2
        exact bodyPost_end (v := .tuple #[]) (by simp [results, Try.results19]) rfl ⟨rfl, hs⟩
  | some x =>
    rw [ho] at hlk
    obtain ⟨D, hown, hat, hhas⟩ := h.inn t x ho
    have HH := Lib.hid h
    have HAT := Lib.hid hat
    have HHAS := Lib.hid hhas
    have HLE := Lib.hid hle
    clear h hat hhas hle
    go_enter Try.func19, Try.ntmps19
    go_wp2_with fail
    refine KM.out.mono ?_
    rintro y w1 ⟨rfl, rfl⟩
    clear KM
    go_wp2
    go_loopw [13] (fun i w' => (W = w' ∧ i = .int .i64 0) ∨ (i = .int .i64 1 ∧ Hid (SpB W w' S T A n o (doneB1 t b)))) (fun i _ => 1 - (intOf i).toNat)
    case atStart => exact .inl ⟨rfl, rfl⟩
    case round =>
      rcases hrel with ⟨rfl, rfl⟩ | ⟨rfl, hs⟩
      · go_wp2_with (first
          | (at_range; refine wpList_range_own _ rfl _ 55 rfl 3 3 keyLaw Try.underlying55 (plainElem (H := Unit) Try.prog 3) x n D rfl hown ?_; intro w0 hrg0 hg0 hs0)
          | fail)
        go_frame
        have l0 := HH.out.lts
        have bel0 : Below W.heap.size W w0 := ⟨hg0.os, hg0.tape, hg0.output, hg0.size, fun j hj => hg0.block j hj (by simp)⟩
        have S0 : Hid (DnW W w0 S T A n W.heap.size o b t x D (Maps.has D) (Maps.size D)) := {
          rg := hrg0
          sp := by rw [midA_start HHAS.out]; exact HH.out.below bel0
          fr := SpFr.of_below bel0
          rx := ⟨by omega, by omega, by omega, fun t' e => by have := l0.2.2.2 t' _ e; omega⟩
          rW := Nat.le_refl _ }
        have hxA : x ≠ A := (HH.out.tb t x ho).2.2
        clear hrg0 hg0 hs0 l0 bel0 hc0 hlk hown
        generalize W.heap.size = R at *
        go_loopw [6] (fun _ wr => ∃ (lf : Lit → Bool) (cnt : Nat), Hid (DnW W wr S T A n R o b t x D lf cnt)) (fun _ wr => wr.rangeLeft x R)
        case atStart => exact ⟨_, _, S0⟩
        case round =>
          obtain ⟨lf, cnt, st⟩ := hrel
          rename World => wi
          clear S0
          have hrg := Lib.hid st.out.rg
          have hle := st.out.rg.left_eq
          go_wp2_with (first
            | (at_next; refine wpList_next_ranges_ii _ rfl _ rfl 3 3 .i64 .i64 keyLaw Try.underlying3 Try.underlying3 x R n D lf cnt rfl hrg.out ?_ ?_)
            | fail)
          · intro hc0 hl0
            have c0 := st.out.sp.c0
            obtain ⟨w2, hdel, ot2, gd, zd⟩ := st.out.sp.ot.drop t ht 0
            have s2 := st.out.sp.forget gd ot2
            rw [midA_end hl0] at s2
            have f2 : SpFr W w2 T A o (updO o t none) := st.out.fr.trans ⟨gd.os, gd.tape, gd.output, gd.size, fun k hk h3 _ _ => gd.block k hk (by intro e; injection e with e; exact h3 e), fun t' b' e => .inl (by
              unfold updO at e; split at e
              · cases e
              · exact e)⟩
            have hR : Hid (SpB W w2 S T A n o (doneB1 t b)) := ⟨_, s2, f2⟩
            clear s2 f2 ot2 gd zd hrg hle st
            go_wp2
            go_round
            case rel => exact .inr ⟨by go_num, hR⟩
            case measure => simp [intOf]
          · intro y c w2 cnt1 hwy hwc hly hat1 hrg1 hlt hg1 hs1 hen
            have hc : c = b.1 t y := by
              have h1 := hat1 (.lit (.int .i64 0))
              rw [HAT.out y] at h1
              injection h1 with h1
              injection h1 with _ h1
              exact h1.symm
            obtain ⟨r1, r2, r3, r4⟩ := st.out.rx
            have sp2 := st.out.sp.other hg1 r1 r2 r3 r4
            have fr2 : SpFr W w2 T A o o := ⟨hg1.os.trans st.out.fr.os, hg1.tape.trans st.out.fr.tape, hg1.output.trans st.out.fr.output, Nat.le_trans st.out.fr.size hg1.size, fun k hk k1 k2 k3 => (hg1.block k (Nat.lt_of_lt_of_le hk st.out.fr.size) (by intro e; injection e with e; have := st.out.rW; omega)).trans (st.out.fr.block k hk k1 k2 k3), fun _ _ e => .inl e⟩
            have g1 := HH.out.gb t y
            have g2 := HLE.out y
            have g3 := HH.out.ab y
            have hm : midA b t lf y = b.2 y := by unfold midA; rw [hly]; simp
            have hneg : IntKind.i64.wrap (-c) = -c := IntWalk.i64_in _ (by omega)
            have KA := Lib.hid (add_any sp2.al y hwy (-c) (WalkArith.wf_i64 (by rw [hm]; omega)) (by unfold maxLen; omega))
            have c1 := sp2.c1
            have HSP := Lib.hid sp2
            have HFR := Lib.hid fr2
            have RX := Lib.hid st.out.rx
            have RW := Lib.hid st.out.rW
            have HRG1 := Lib.hid hrg1
            have HC := Lib.hid hc
            have HM := Lib.hid hm
            have HLY := Lib.hid hly
            clear r1 r2 r3 r4 sp2 fr2 hrg1 hg1 hs1 hat1 hc hm st hrg hly
            go_wp2_with fail
            refine KA.out.mono ?_
            rintro z w3 ⟨rfl, tA, gA, zA⟩
            have tA2 := HSP.out.al.shrink tA (fun i hi e => by
              apply hi
              unfold updI
              by_cases ei : i = y
              · rw [if_pos ei, HM.out]
                rw [ei, HM.out] at e
                have := HC.out
                omega
              · rw [if_neg ei]; exact e)
            rw [HC.out, midA_step HLY.out] at tA2
            have sp3 := HSP.out.setAll gA tA2 (midA_pos (fun q => (HH.out.gb t q).1) HLE.out (fun q => (HH.out.ab q).2))
            have fr3 : SpFr W w3 T A o o := HFR.out.trans ⟨gA.os, gA.tape, gA.output, gA.size, fun k hk _ h3 _ => gA.block k hk (by intro e; injection e with e; exact h3 e), fun _ _ e => .inl e⟩
            have rg3 := HRG1.out.kept gA (by intro e; injection e with e; exact hxA e) (by intro e; injection e with e; exact RX.out.2.2.1 e)
            have ST : Hid (DnW W w3 S T A n R o b t x D (fun z => lf z && !z.sameKey (.int .i64 y)) cnt1) := ⟨rg3, sp3, fr3, RX.out, RW.out⟩
            have hle3 := rg3.left_eq
            clear tA gA zA tA2 sp3 fr3 rg3 KA HSP HFR HRG1 c1 hen g1 g2 g3
            go_wp2
            go_roundw
            case rel => exact ⟨_, _, ST⟩
            case measure => rw [hle3, hle]; exact hlt
      · go_wp2
        exact bodyPost_end (v := .tuple #[]) (by simp [results, Try.results19]) rfl ⟨rfl, hs⟩
end Go.Proofs.Ytjjbdkgnkieliaa
