/-
  THE CONTRACT OF a table's Note of any records: a rule by what holds behind each.
-/
import Derived.Test.YtophbefmlfieeaaTxTab
namespace Go.Proofs.Ytophbefmlfieeaa
open Go.RowKit
set_option maxRecDepth 100000 in
theorem tnote_nil (home : Int) (a : Option Addr) (n c : Nat) (W : World) : Calls Try.prog 11 #[.pointer none, .int .i64 home, .slice a n c] W fun x w' => x = .returned (.int .i64 1) ∧ Below W.heap.size W w' := by
  have KM := Lib.hid (made_nil W)
  go_enter Try.func11, Try.ntmps11
  go_wp2_with fail
  refine KM.out.mono ?_
  rintro x w1 ⟨rfl, rfl⟩
  go_wp2
  go_ret
  exact ⟨rfl, Below.refl _ _⟩
/-- Records in memory, below another world. -/
theorem RcsAt.below {W X : World} {a : Option Addr} {l : List Rc} (h : RcsAt W a l) (hb : Below W.heap.size W X) : RcsAt X a l := by
  rcases h with h | ⟨b, off, e, hc⟩
  · exact .inl h
  · exact .inr ⟨b, off, e, fun i hi => by
      obtain ⟨c0, c1, c2, c3, c4, c5, c6, c7, c8, c9, c10⟩ := hc i hi
      exact ⟨keep_cell hb c0, keep_cell hb c1, keep_cell hb c2, keep_cell hb c3, keep_cell hb c4, keep_cell hb c5, keep_cell hb c6, keep_cell hb c7, keep_cell hb c8, keep_cell hb c9, keep_cell hb c10⟩⟩
set_option maxRecDepth 100000 in
set_option maxHeartbeats 4000000 in
theorem tnote_any {W : World} {t M : Nat} (home : Int) (a : Option Addr) (l : List Rc) (c : Nat) (I : Nat → World → Prop) (J : Int → World → Prop)
    (hI : ∀ k X Y, I k X → Below X.heap.size X Y → I k Y) (hct : ∀ k X, I k X → X.cell? ⟨t, 0, none⟩ = some (.map (some M))) (hrc : ∀ k X, I k X → RcsAt X a l)
    (hs : ∀ k X, k < l.length → I k X → Calls Try.prog 29 #[.pointer (some ⟨t, 0, none⟩), .int .i64 home, .agg #[.int .i64 (l.getD k noRc).k, .int .i64 (l.getD k noRc).g, .int .i64 (l.getD k noRc).t, .int .i64 (l.getD k noRc).p, .int .i64 (l.getD k noRc).pg, .string (l.getD k noRc).key, .bool (l.getD k noRc).hb, .string (l.getD k noRc).sb, .bool (l.getD k noRc).ha, .string (l.getD k noRc).sa, .int .i64 (l.getD k noRc).u]] X fun x w' => ∃ e, x = .returned (.int .i64 e) ∧ (e = 0 → I (k + 1) w') ∧ (¬ e = 0 → J e w'))
    (h0 : I 0 W) (hn : l.length ≤ 1000000) :
    Calls Try.prog 11 #[.pointer (some ⟨t, 0, none⟩), .int .i64 home, .slice a l.length c] W fun x w' => ∃ e, x = .returned (.int .i64 e) ∧ (e = 0 → I l.length w') ∧ (¬ e = 0 → J e w') := by
  have KM := Lib.hid (made_yes (hct 0 W h0))
  have HI := Lib.hid hI
  have HC := Lib.hid hrc
  have HS := Lib.hid hs
  have H0 := Lib.hid h0
  clear hI hct hrc hs h0
  go_enter Try.func11, Try.ntmps11
  go_wp2_with fail
  refine KM.out.mono ?_
  rintro x w1 ⟨rfl, rfl⟩
  go_wp2
  go_loopw [15] (fun i wr => ∃ k : Nat, k ≤ l.length ∧ i = .int .i64 k ∧ I k wr) (fun i _ => l.length - (intOf i).toNat)
  case atStart => exact ⟨0, Nat.zero_le _, rfl, H0.out⟩
  case round =>
    obtain ⟨n, hk, rfl, hI⟩ := hrel
    have HIn := Lib.hid hI
    clear hI H0
    by_cases hlt : n < l.length
    · obtain ⟨b, off, rfl, hcc⟩ : ∃ b off, a = some ⟨b, off, none⟩ ∧ ∀ i, i < l.length → wr.cell? ⟨b, off + i * 11, none⟩ = some (.int .i64 (l.getD i noRc).k) ∧ wr.cell? ⟨b, off + i * 11 + 1, none⟩ = some (.int .i64 (l.getD i noRc).g) ∧ wr.cell? ⟨b, off + i * 11 + 2, none⟩ = some (.int .i64 (l.getD i noRc).t) ∧ wr.cell? ⟨b, off + i * 11 + 3, none⟩ = some (.int .i64 (l.getD i noRc).p) ∧ wr.cell? ⟨b, off + i * 11 + 4, none⟩ = some (.int .i64 (l.getD i noRc).pg) ∧ wr.cell? ⟨b, off + i * 11 + 5, none⟩ = some (.string (l.getD i noRc).key) ∧ wr.cell? ⟨b, off + i * 11 + 6, none⟩ = some (.bool (l.getD i noRc).hb) ∧ wr.cell? ⟨b, off + i * 11 + 7, none⟩ = some (.string (l.getD i noRc).sb) ∧ wr.cell? ⟨b, off + i * 11 + 8, none⟩ = some (.bool (l.getD i noRc).ha) ∧ wr.cell? ⟨b, off + i * 11 + 9, none⟩ = some (.string (l.getD i noRc).sa) ∧ wr.cell? ⟨b, off + i * 11 + 10, none⟩ = some (.int .i64 (l.getD i noRc).u) := by
        rcases HC.out n wr HIn.out with h | h
        · rw [h] at hlt; simp at hlt
        · exact h
      obtain ⟨c0, c1, c2, c3, c4, c5, c6, c7, c8, c9, c10⟩ := hcc n hlt
      clear hcc
      have K1 : Hid (∀ X : World, Below wr.heap.size wr X → Calls Try.prog 29 #[.pointer (some ⟨t, 0, none⟩), .int .i64 home, .agg #[.int .i64 (l.getD n noRc).k, .int .i64 (l.getD n noRc).g, .int .i64 (l.getD n noRc).t, .int .i64 (l.getD n noRc).p, .int .i64 (l.getD n noRc).pg, .string (l.getD n noRc).key, .bool (l.getD n noRc).hb, .string (l.getD n noRc).sb, .bool (l.getD n noRc).ha, .string (l.getD n noRc).sa, .int .i64 (l.getD n noRc).u]] X fun x w' => ∃ e, x = .returned (.int .i64 e) ∧ (e = 0 → I (n + 1) w') ∧ (¬ e = 0 → J e w')) := fun X hb => HS.out n X hlt (HI.out n wr X HIn.out hb)
      clear HIn HC HS HI
      generalize l.getD n noRc = s at K1 c0 c1 c2 c3 c4 c5 c6 c7 c8 c9 c10
      obtain ⟨k, g, t', p, pg, key, hb, sb, ha, sa, u⟩ := s
      simp only at K1 c0 c1 c2 c3 c4 c5 c6 c7 c8 c9 c10
      go_wp2_with fail
      refine (K1.out _ ((Below.refl _ _).alloc (Nat.le_refl _) _)).mono ?_
      rintro x w1 ⟨e, rfl, h1, h2⟩
      by_cases he : e = 0
      · have HN := Lib.hid (h1 he)
        subst he
        clear h1 h2 c0 c1 c2 c3 c4 c5 c6 c7 c8 c9 c10 K1
        go_wp2
        go_roundw
        case rel => exact ⟨n + 1, by omega, by go_num, HN.out⟩
        case measure => simp [intOf]; omega
      · have HN := Lib.hid (h2 he)
        clear h1 h2 c0 c1 c2 c3 c4 c5 c6 c7 c8 c9 c10 K1
        go_wp2
        go_ret
        exact ⟨e, rfl, fun h => absurd h he, fun _ => HN.out⟩
    · have he : n = l.length := by omega
      subst he
      clear HC HS HI
      go_wp2
      go_ret
      exact ⟨0, rfl, fun _ => HIn.out, fun h => absurd rfl h⟩
end Go.Proofs.Ytophbefmlfieeaa
