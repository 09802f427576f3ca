/-
  THE CONTRACT OF Space.note: its walk.
-/
import Derived.Test.YtjjbdkgnkieliaaSpNote
import Derived.Deep.Cut
namespace Go.Proofs.Ytjjbdkgnkieliaa
open Go.RowKit Go.Maps Go.ChangeMaps Go.MapKept Go.WideElems
set_option maxRecDepth 100000 in
set_option maxHeartbeats 4000000 in
theorem note_any {W : World} {S T A n : Nat} {o : Int → Option Nat} {g : Int → Int → Int} {a : Int → Int} (h : SpIn W S T A n o g a) (t p z : Int) (ht : (Lit.int .i64 t).wf = true) (hp : (Lit.int .i64 p).wf = true) (h1 : 0 ≤ g t p + z) (h2 : 0 ≤ a p + z) (h3 : z ≤ 1) (hn : n ≤ 1000000) :
    Calls Try.prog 24 #[.pointer (some ⟨S, 0, none⟩), .int .i64 t, .int .i64 p, .int .i64 z] W fun e w' => e = .returned (.tuple #[]) ∧ Hid (SpTo W w' S T A (n + 3) o (upd2 g t p (g t p + z)) (updI a p (a p + z))) := by
  have hlk := h.ot.lookOk t ht
  have hc0 := h.c0
  obtain ⟨l1, l2, l3, l4⟩ := h.lts
  obtain ⟨B, hB⟩ : ∃ B, B = W.heap.size := ⟨_, rfl⟩
  have hBT : B ≠ T := by omega
  have hBA : B ≠ A := by omega
  cases ho : o t with
  | some b =>
    rw [ho] at hlk
    obtain ⟨X, hX⟩ : ∃ X, X = W.alloc (.cells #[.map (some b)] 62) := ⟨_, rfl⟩
    have hb0 : Below W.heap.size W X := by rw [hX]; exact (Below.refl _ _).alloc (Nat.le_refl _) _
    have sX := h.below hb0
    have fX : SpFr W X T A o o := SpFr.of_below hb0
    have cX : X.cell? ⟨B, 0, none⟩ = some (.map (some b)) := by rw [hX, hB]; exact new_cell rfl rfl
    have hoX : o t = some b := ho
    have hBo : ∀ t', o t' ≠ some B := fun t' e => by have := l4 t' B e; omega
    obtain ⟨o1, ho1⟩ : ∃ o1, o1 = o := ⟨_, rfl⟩
    obtain ⟨n1, hn1, hn2⟩ : ∃ n1, n1 = n ∧ n1 ≤ n + 1 := ⟨n, rfl, by omega⟩
    rw [← ho1] at hoX hBo sX
    rw [← hn1] at sX
    have fX : SpFr W X T A o o1 := by rw [ho1]; exact fX
    have HO := Lib.hid ho1
    clear ho1 ho h l1 l2 l3 l4 hn1 hb0
    go_enter Try.func24, Try.ntmps24
    go_upto_region 4 with fail
    rw [← hB, ← hX]
    clear hX hlk hc0 hB
    have wn : ∀ {m : Nat} {x : Int}, m ≤ 2000000 → 0 ≤ x → x ≤ m + 1 → (Lit.int .i64 x).wf = true := fun hm h1 h2 => WalkArith.wf_i64 (by omega)
    have g1 := sX.gb t p
    have g2 := sX.ab p
    have KA := Lib.hid (add_any (sX.inn t b hoX) p hp z (wn (m := n1) (by omega) h1 (by omega)) (by unfold maxLen; omega))
    have c1 := sX.c1
    clear g1 g2
    go_wp2_with fail
    refine KA.out.mono ?_
    rintro x W2 ⟨rfl, tA, gA, zA⟩
    have s2 := sX.addOwn hoX gA tA ⟨h1, by have := (sX.gb t p).2; omega⟩
    have f2 : SpFr W W2 T A o o1 := fX.trans ⟨gA.os, gA.tape, gA.output, gA.size, fun k hk _ _ h3 => gA.block k hk (by intro e; injection e with e; exact h3 t (e ▸ hoX)), fun _ _ e => .inl e⟩
    have lX := block_lt cX
    have c2 : W2.cell? ⟨B, 0, none⟩ = some (.map (some b)) := (World.cell?_of_block (a := ⟨B, 0, none⟩) (gA.block B lX (by intro e; injection e with e; exact hBo t (e ▸ hoX)))).trans cX
    have hc1 := s2.c1
    have g2 := s2.ab p
    have KB := Lib.hid (add_any s2.al p hp z (wn (m := n1 + 1) (by omega) h2 (by omega)) (by unfold maxLen; omega))
    have S2 := Lib.hid s2
    have F2 := Lib.hid f2
    clear tA gA zA KA sX s2 f2 fX cX c1 g2
    go_wp2_with fail
    refine KB.out.mono ?_
    rintro x W3 ⟨rfl, tB, gB, zB⟩
    have s3 := S2.out.addAll gB tB ⟨h2, by have := (S2.out.ab p).2; omega⟩
    have f3 : SpFr W W3 T A o o1 := F2.out.trans ⟨gB.os, gB.tape, gB.output, gB.size, fun k hk _ h3 _ => gB.block k hk (by intro e; injection e with e; exact h3 e), fun _ _ e => .inl e⟩
    have c3 : W3.cell? ⟨B, 0, none⟩ = some (.map (some b)) := (World.cell?_of_block (a := ⟨B, 0, none⟩) (gB.block B (block_lt c2) (by intro e; injection e with e; exact hBA e))).trans c2
    have hc0 := s3.c0
    obtain ⟨c, hcn, hlen, hcz⟩ := (s3.inn t b hoX).len 3
    rw [upd2_same] at hcz
    have S3 := Lib.hid s3
    have F3 := Lib.hid f3
    have HCZ := Lib.hid hcz
    clear tB gB zB KB S2 F2 s3 f3 c2 hc1 hcz
    by_cases h0 : c = 0
    · subst h0
      obtain ⟨W4, hdel, ot4, gd, zd⟩ := S3.out.ot.drop t ht 0
      have s4 := S3.out.strike (fun q => by rw [upd2_same]; exact HCZ.out.1 rfl q) gd ot4
      have f4 : SpFr W W4 T A o (updO o1 t none) := F3.out.trans ⟨gd.os, gd.tape, gd.output, gd.size, fun k hk h3 _ _ => gd.block k hk (by intro e; injection e with e; exact h3 e), fun t' b' e => .inl (by
        unfold updO at e; split at e
        · cases e
        · exact e)⟩
      have R : Hid (SpTo W W4 S T A (n + 3) o (upd2 g t p (g t p + z)) (updI a p (a p + z))) := ⟨_, s4.mono (by omega), f4⟩
      clear ot4 gd zd s4 f4 S3 F3 hcn HCZ
      go_wp2
      exact bodyPost_end (v := .tuple #[]) (by simp [results, Try.results24]) rfl ⟨rfl, R⟩
    · have R : Hid (SpTo W W3 S T A (n + 3) o (upd2 g t p (g t p + z)) (updI a p (a p + z))) := ⟨_, S3.out.mono (by omega), F3.out⟩
      clear S3 F3 hcn HCZ
      have h0' : ((c : Int) == 0) = false := by simpa using h0
      go_wp2
      exact bodyPost_end (v := .tuple #[]) (by simp [results, Try.results24]) rfl ⟨rfl, R⟩
  | none =>
    rw [ho] at hlk
    have hmm := @run_makeMap Try.prog
    obtain ⟨X0, hX0⟩ : ∃ X0, X0 = (W.alloc (.cells #[.map (some (W.heap.size + 1))] 62)).alloc (.map #[] 0) := ⟨_, rfl⟩
    have hb0 : Below W.heap.size W X0.drew := by rw [hX0]; exact (((Below.refl _ _).alloc (Nat.le_refl _) _).alloc (by simp only [World.size_alloc]; omega) _).drew
    have s0 := h.below hb0
    have hz0 : X0.heap.size = W.heap.size + 2 := by rw [hX0]; simp only [World.size_alloc]
    have cB : X0.drew.cell? ⟨W.heap.size, 0, none⟩ = some (.map (some (W.heap.size + 1))) := by
      have e : (W.alloc (.cells #[.map (some (W.heap.size + 1))] 62)).cell? ⟨W.heap.size, 0, none⟩ = some (.map (some (W.heap.size + 1))) := new_cell rfl rfl
      rw [hX0]
      exact ((Below.refl _ _).alloc (Nat.le_refl _) (.map #[] 0)).cell (p := ⟨W.heap.size, 0, none⟩) (block_lt e) |>.trans e
    have tb0 : TalAt X0.drew (W.heap.size + 1) 0 (fun _ => 0) := by
      have e := TalAt.made (W.alloc (.cells #[.map (some (W.heap.size + 1))] 62))
      simp only [World.size_alloc] at e
      rw [hX0]; exact e
    obtain ⟨b, hb⟩ : ∃ b, b = W.heap.size + 1 := ⟨_, rfl⟩
    obtain ⟨X, hst, ot1, gT, zT⟩ := s0.ot.store t ht b (by have := hn; unfold maxLen; omega)
    rw [← hb] at cB tb0
    have hbn : ∀ t', o t' ≠ some b := fun t' e => by have := l4 t' b e; omega
    have sX := s0.putOwn ho tb0 (by omega) (by omega) (by omega) hbn gT ot1
    have f0 : SpFr W X0.drew T A o o := SpFr.of_below hb0
    have fX : SpFr W X T A o (updO o t (some b)) := ⟨gT.os.trans f0.os, gT.tape.trans f0.tape, gT.output.trans f0.output, Nat.le_trans f0.size gT.size, fun k hk h3 h4 h5 => (gT.block k (Nat.lt_of_lt_of_le hk f0.size) (by intro e; injection e with e; exact h3 e)).trans (f0.block k hk h3 h4 h5), fun t' b' e => by
      unfold updO at e; split at e
      · injection e with e; right; omega
      · exact .inl e⟩
    have cX : X.cell? ⟨B, 0, none⟩ = some (.map (some b)) := by
      rw [hB]
      exact (World.cell?_of_block (a := ⟨W.heap.size, 0, none⟩) (gT.block W.heap.size (block_lt cB) (by intro e; injection e with e; omega))).trans cB
    have hoX : updO o t (some b) t = some b := by unfold updO; rw [if_pos rfl]
    have hBo : ∀ t', updO o t (some b) t' ≠ some B := fun t' e => by
      unfold updO at e; split at e
      · injection e with e; omega
      · have := l4 t' B e; omega
    obtain ⟨o1, ho1⟩ : ∃ o1, o1 = updO o t (some b) := ⟨_, rfl⟩
    obtain ⟨n1, hn1, hn2⟩ : ∃ n1, n1 = n + 1 ∧ n1 ≤ n + 1 := ⟨n + 1, rfl, Nat.le_refl _⟩
    rw [← ho1] at hoX hBo sX fX
    rw [← hn1] at sX
    have hc1 := s0.c0
    have HO := Lib.hid ho1
    clear ho1 ho h l1 l2 l3 l4 hn1 hb0 hz0 tb0 ot1 gT zT hbn f0
    go_enter Try.func24, Try.ntmps24
    go_upto_region 3 with fail
    rw [← hX0, ← hb]
    have HS0 := Lib.hid s0
    clear hX0 hlk hc0 hmm s0
    have HB := Lib.hid hB
    clear hB hb
    go_region
    rw [← HB.out]
    clear hst cB hc1 HB HS0
    have wn : ∀ {m : Nat} {x : Int}, m ≤ 2000000 → 0 ≤ x → x ≤ m + 1 → (Lit.int .i64 x).wf = true := fun hm h1 h2 => WalkArith.wf_i64 (by omega)
    have g1 := sX.gb t p
    have g2 := sX.ab p
    have KA := Lib.hid (add_any (sX.inn t b hoX) p hp z (wn (m := n1) (by omega) h1 (by omega)) (by unfold maxLen; omega))
    have c1 := sX.c1
    clear g1 g2
    go_wp2_with fail
    refine KA.out.mono ?_
    rintro x W2 ⟨rfl, tA, gA, zA⟩
    have s2 := sX.addOwn hoX gA tA ⟨h1, by have := (sX.gb t p).2; omega⟩
    have f2 : SpFr W W2 T A o o1 := fX.trans ⟨gA.os, gA.tape, gA.output, gA.size, fun k hk _ _ h3 => gA.block k hk (by intro e; injection e with e; exact h3 t (e ▸ hoX)), fun _ _ e => .inl e⟩
    have lX := block_lt cX
    have c2 : W2.cell? ⟨B, 0, none⟩ = some (.map (some b)) := (World.cell?_of_block (a := ⟨B, 0, none⟩) (gA.block B lX (by intro e; injection e with e; exact hBo t (e ▸ hoX)))).trans cX
    have hc1 := s2.c1
    have g2 := s2.ab p
    have KB := Lib.hid (add_any s2.al p hp z (wn (m := n1 + 1) (by omega) h2 (by omega)) (by unfold maxLen; omega))
    have S2 := Lib.hid s2
    have F2 := Lib.hid f2
    clear tA gA zA KA sX s2 f2 fX cX c1 g2
    go_wp2_with fail
    refine KB.out.mono ?_
    rintro x W3 ⟨rfl, tB, gB, zB⟩
    have s3 := S2.out.addAll gB tB ⟨h2, by have := (S2.out.ab p).2; omega⟩
    have f3 : SpFr W W3 T A o o1 := F2.out.trans ⟨gB.os, gB.tape, gB.output, gB.size, fun k hk _ h3 _ => gB.block k hk (by intro e; injection e with e; exact h3 e), fun _ _ e => .inl e⟩
    have c3 : W3.cell? ⟨B, 0, none⟩ = some (.map (some b)) := (World.cell?_of_block (a := ⟨B, 0, none⟩) (gB.block B (block_lt c2) (by intro e; injection e with e; exact hBA e))).trans c2
    have hc0 := s3.c0
    obtain ⟨c, hcn, hlen, hcz⟩ := (s3.inn t b hoX).len 3
    rw [upd2_same] at hcz
    have S3 := Lib.hid s3
    have F3 := Lib.hid f3
    have HCZ := Lib.hid hcz
    clear tB gB zB KB S2 F2 s3 f3 c2 hc1 hcz
    by_cases h0 : c = 0
    · subst h0
      obtain ⟨W4, hdel, ot4, gd, zd⟩ := S3.out.ot.drop t ht 0
      have s4 := S3.out.strike (fun q => by rw [upd2_same]; exact HCZ.out.1 rfl q) gd ot4
      have f4 : SpFr W W4 T A o (updO o1 t none) := F3.out.trans ⟨gd.os, gd.tape, gd.output, gd.size, fun k hk h3 _ _ => gd.block k hk (by intro e; injection e with e; exact h3 e), fun t' b' e => .inl (by
        unfold updO at e; split at e
        · cases e
        · exact e)⟩
      have R : Hid (SpTo W W4 S T A (n + 3) o (upd2 g t p (g t p + z)) (updI a p (a p + z))) := ⟨_, s4.mono (by omega), f4⟩
      clear ot4 gd zd s4 f4 S3 F3 hcn HCZ
      go_wp2
      exact bodyPost_end (v := .tuple #[]) (by simp [results, Try.results24]) rfl ⟨rfl, R⟩
    · have R : Hid (SpTo W W3 S T A (n + 3) o (upd2 g t p (g t p + z)) (updI a p (a p + z))) := ⟨_, S3.out.mono (by omega), F3.out⟩
      clear S3 F3 hcn HCZ
      have h0' : ((c : Int) == 0) = false := by simpa using h0
      go_wp2
      exact bodyPost_end (v := .tuple #[]) (by simp [results, Try.results24]) rfl ⟨rfl, R⟩
end Go.Proofs.Ytjjbdkgnkieliaa
