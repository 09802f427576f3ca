/-
  THE CONTRACTS OF a table's note of one record, by cases.
-/
import Derived.Test.YtophbefmlfieeaaTxBegun
namespace Go.Proofs.Ytophbefmlfieeaa
open Go.RowKit
def updM (m : Int → Option (Nat × KnD)) (i : Int) (x : Nat × KnD) : Int → Option (Nat × KnD) := fun k => if k = i then some x else m k
theorem updM_same (m : Int → Option (Nat × KnD)) (i : Int) (x : Nat × KnD) : updM m i x i = some x := by unfold updM; rw [if_pos rfl]
theorem updM_other (m : Int → Option (Nat × KnD)) {i j : Int} (x : Nat × KnD) (h : j ≠ i) : updM m i x j = m j := by unfold updM; rw [if_neg h]
theorem updM_own {m : Int → Option (Nat × KnD)} {i : Int} {x : Nat × KnD} {M k : Nat} (h : TbOwn M (updM m i x) k) : TbOwn M m k ∨ KnB x k := by
  rcases h with e | ⟨j, y, hy, hk⟩
  · exact .inl (.inl e)
  · by_cases e : j = i
    · subst e; rw [updM_same] at hy; injection hy with hy; subst hy; exact .inr hk
    · rw [updM_other _ _ e] at hy; exact .inl (.inr ⟨j, y, hy, hk⟩)
/-- The table of another m: all of updM's facts. -/
theorem TbAt.upd {W X : World} {B t M n n' : Nat} {m : Int → Option (Nat × KnD)} {i : Int} {K : Nat} {d' : KnD} (h : TbAt W B t M n m)
    (hold : ∀ k, k < W.heap.size → k ≠ M → (∀ d, m i = some (K, d) → ¬ KnB (K, d) k) → X.heap[k]? = W.heap[k]?)
    (hK : KnIs X B K d') (hfr : FrAt X M n' (fun j => (updM m i (K, d') j).map (·.1)))
    (hn : ∀ k, KnB (K, d') k → (∃ d, m i = some (K, d) ∧ KnB (K, d) k) ∨ W.heap.size ≤ k) (hi : ∀ x, m i = some x → x.1 = K) :
    TbAt X B t M n' (updM m i (K, d')) := by
  have hmi : ∀ x, m i = some x → ∃ d, x = (K, d) := fun x e => ⟨x.2, by rw [← hi x e]⟩
  have hother : ∀ j x k, j ≠ i → m j = some x → KnB x k → ¬ KnB (K, d') k := fun j x k hj hx hk c => by
    rcases hn k c with ⟨d, e, c2⟩ | c2
    · exact h.sep j i x (K, d) k hj hx e hk c2
    · have := (h.kn j x.1 x.2 hx).ltB hk; omega
  have hnt : ∀ k, k < W.heap.size → (∀ x, m i = some x → ¬ KnB x k) → ¬ KnB (K, d') k := fun k hk hx c => by
    rcases hn k c with ⟨d, e, c2⟩ | c2
    · exact hx _ e c2
    · omega
  have ht : X.heap[t]? = W.heap[t]? := hold t h.lts.1 h.tm (fun d e => (h.tb i _ e).1)
  refine ⟨(World.cell?_of_block ht).trans h.ct, hfr, fun j K2 d2 e => ?_, fun a b x y k hab hx hy hk => ?_, fun j x hx => ?_, h.tm, h.lo⟩
  · by_cases q : j = i
    · subst q; rw [updM_same] at e; injection e with e; injection e with e1 e2; subst e1 e2; exact hK
    · rw [updM_other _ _ q] at e
      have hd := h.kn j K2 d2 e
      have hbk : ∀ k, KnB (K2, d2) k → X.heap[k]? = W.heap[k]? := fun k hk => hold k (hd.ltB hk).1 (fun c => (h.tb j _ e).2 (c ▸ hk)) (fun d e2 => h.sep j i _ _ k q e e2 hk)
      have c : ∀ {j : Nat} {u : Value}, W.cell? ⟨K2, j, none⟩ = some u → X.cell? ⟨K2, j, none⟩ = some u := fun hc => (World.cell?_of_block (hbk K2 (.inl rfl))).trans hc
      exact ⟨c hd.c0, c hd.c1, c hd.c2, c hd.c3, c hd.c4, c hd.c5, c hd.c6, fun j => (World.frozen?_of_block (a := ⟨K2, j, none⟩) (hbk K2 (.inl rfl))).trans (hd.fz j), row_block hd.cr (fun k e => hbk k (.inr (.inl e))), row_block hd.pr (fun k e => hbk k (.inr (.inr e))), hd.nc, hd.np, hd.ncp, hd.lo⟩
  · by_cases qa : a = i
    · subst qa
      rw [updM_same] at hx
      injection hx with hx
      subst hx
      rw [updM_other _ _ (Ne.symm hab)] at hy
      exact fun c => hother b y k (Ne.symm hab) hy c hk
    · rw [updM_other _ _ qa] at hx
      by_cases qb : b = i
      · subst qb
        rw [updM_same] at hy
        injection hy with hy
        subst hy
        exact hother a x k qa hx hk
      · rw [updM_other _ _ qb] at hy
        exact h.sep a b x y k hab hx hy hk
  · by_cases q : j = i
    · subst q
      rw [updM_same] at hx
      injection hx with hx
      subst hx
      exact ⟨hnt t h.lts.1 (fun x e => (h.tb j x e).1), hnt M h.lts.2 (fun x e => (h.tb j x e).2)⟩
    · rw [updM_other _ _ q] at hx
      exact h.tb j x hx
/-- What noting leaves of a table: its next state, and what was left alone. -/
def TbP (W : World) (B t M n : Nat) (m m' : Int → Option (Nat × KnD)) (w' : World) : Prop := TbAt w' B t M n m' ∧ FrP W w' (TbOwn M m) ∧ ∀ k, TbOwn M m' k → TbOwn M m k ∨ W.heap.size ≤ k
theorem TbP.of_below {W X : World} {B t M n : Nat} {m : Int → Option (Nat × KnD)} (h : TbAt W B t M n m) (hb : Below W.heap.size W X) : TbP W B t M n m m X := ⟨h.below hb, FrP.of_below hb, fun _ c => .inl c⟩
theorem TbP.trans {W X Y : World} {B t M n n' : Nat} {m m' m2 : Int → Option (Nat × KnD)} (h : TbP W B t M n m m' X) (g : TbP X B t M n' m' m2 Y) : TbP W B t M n' m m2 Y :=
  ⟨g.1, h.2.1.trans g.2.1 h.2.2, fun k c => by
    rcases g.2.2 k c with c | c
    · exact h.2.2 k c
    · exact .inr (Nat.le_trans h.2.1.size c)⟩
/-- A known one that noted. -/
theorem TbAt.noted {W X : World} {B t M n : Nat} {m : Int → Option (Nat × KnD)} {i : Int} {K : Nat} {d d' : KnD} {e : Int} {x : Ending} (h : TbAt W B t M n m) (hm : m i = some (K, d)) (hp : NtP W B K d e d' x X) :
    ∃ cv pv, TbP W B t M n m (updM m i (K, { d' with cv := cv, pv := pv })) X := by
  obtain ⟨_, ⟨cv, pv, hk, h1, h2⟩, hf⟩ := hp
  have hn : ∀ k, KnB (K, ({ d' with cv := cv, pv := pv } : KnD)) k → KnB (K, d) k ∨ W.heap.size ≤ k := fun k c => by
    rcases c with c | c | c
    · exact .inl (.inl c)
    · rcases h1 k c with q | q
      · exact .inl (.inr (.inl q))
      · exact .inr q
    · rcases h2 k c with q | q
      · exact .inl (.inr (.inr q))
      · exact .inr q
  have hb : ∀ k, k < W.heap.size → ¬ KnB (K, d) k → X.heap[k]? = W.heap[k]? := fun k hk c => hf.block k hk (fun e => c (.inl e)) (fun e => c (.inr (.inl e))) (fun e => c (.inr (.inr e)))
  refine ⟨cv, pv, h.upd (fun k hk _ c => hb k hk (c d hm)) hk ?_ (fun k c => by
    rcases hn k c with q | q
    · exact .inl ⟨d, hm, q⟩
    · exact .inr q) (fun y e => by rw [hm] at e; injection e with e; subst e; rfl), ⟨hf.os, hf.tape, hf.output, hf.size, fun k hk c => hb k hk (fun q => c (.inr ⟨i, _, hm, q⟩))⟩, fun k c => by
    rcases updM_own c with c | c
    · exact .inl c
    · rcases hn k c with q | q
      · exact .inl (.inr ⟨i, _, hm, q⟩)
      · exact .inr q⟩
  have e0 : (fun j => (updM m i (K, ({ d' with cv := cv, pv := pv } : KnD)) j).map (·.1)) = fun j => (m j).map (·.1) := by
    funext j
    by_cases q : j = i
    · subst q; rw [updM_same, hm]; rfl
    · rw [updM_other _ _ q]
  rw [e0]
  exact h.fr.of_block (hb M h.lts.2 (h.tb i _ hm).2)
/-- A new one's block in the map. -/
theorem TbAt.begun {W Z X Y : World} {B t M n : Nat} {m : Int → Option (Nat × KnD)} {i : Int} {K : Nat} {home g : Int} (hW : Below W.heap.size W Z) (h : TbAt Z B t M n m) (hm : m i = none) (hb : Below Z.heap.size Z X) (hk : KnIs X B K (newKn home g i)) (hK : Z.heap.size ≤ K)
    (hf : FrAt Y M (n + 1) (updF (fun j => (m j).map (·.1)) i (some K))) (hg : X.grownBy Y (some M)) : TbP W B t M (n + 1) m (updM m i (K, newKn home g i)) Y := by
  have hM := h.lts.2
  have hbk : Y.heap[K]? = X.heap[K]? := hg.block K hk.lt (fun e => by injection e with e; omega)
  have c : ∀ {j : Nat} {u : Value}, X.cell? ⟨K, j, none⟩ = some u → Y.cell? ⟨K, j, none⟩ = some u := fun hc => (World.cell?_of_block hbk).trans hc
  have hkY : KnIs Y B K (newKn home g i) := ⟨c hk.c0, c hk.c1, c hk.c2, c hk.c3, c hk.c4, c hk.c5, c hk.c6, fun j => (World.frozen?_of_block (a := ⟨K, j, none⟩) hbk).trans (hk.fz j), World.ownsRow_nil _ _ _ _, World.ownsRow_nil _ _ _ _, hk.nc, hk.np, hk.ncp, hk.lo⟩
  have hnew : ∀ k, KnB (K, newKn home g i) k → k = K := fun k c => by
    rcases c with c | c | c
    · exact c
    · simp [newKn, Value.ownBlock] at c
    · simp [newKn, Value.ownBlock] at c
  have hall : ∀ k, k < Z.heap.size → k ≠ M → Y.heap[k]? = Z.heap[k]? := fun k hk hne => (hg.block k (Nat.lt_of_lt_of_le hk hb.size) (fun e => by injection e with e; exact hne e)).trans (hb.block k hk)
  refine ⟨h.upd (fun k hk hne _ => hall k hk hne) hkY ?_ (fun k c => .inr (by rw [hnew k c]; exact hK)) (fun x e => by rw [hm] at e; cases e), ⟨hg.os.trans (hb.os.trans hW.os), hg.tape.trans (hb.tape.trans hW.tape), hg.output.trans (hb.output.trans hW.output), Nat.le_trans hW.size (Nat.le_trans hb.size hg.size), fun k hk c => (hall k (Nat.lt_of_lt_of_le hk hW.size) (fun e => c (.inl e))).trans (hW.block k hk)⟩, fun k c => ?_⟩
  · have e0 : (fun j => (updM m i (K, newKn home g i) j).map (·.1)) = updF (fun j => (m j).map (·.1)) i (some K) := by
      funext j
      unfold updF updM
      by_cases q : j = i
      · rw [if_pos q, if_pos q]; rfl
      · rw [if_neg q, if_neg q]
    rw [e0]; exact hf
  · rcases updM_own c with c | c
    · exact .inl c
    · have := hW.size; rw [hnew k c]; exact .inr (by omega)
theorem rcs_one {W : World} {q : Nat} {r : Rc} (h : R11 W q r) : RcsAt W (some ⟨q, 0, none⟩) [r] :=
  .inr ⟨q, 0, rfl, fun j hj => by
    have : j = 0 := by simpa using hj
    subst this
    exact ⟨h.at' 0 _ rfl, h.at' 1 _ rfl, h.at' 2 _ rfl, h.at' 3 _ rfl, h.at' 4 _ rfl, h.at' 5 _ rfl, h.at' 6 _ rfl, h.at' 7 _ rfl, h.at' 8 _ rfl, h.at' 9 _ rfl, h.at' 10 _ rfl⟩⟩
theorem right_one {W : World} {q : Nat} {r : Rc} (h : R11 W q r) : Calls Try.prog 47 #[.slice (some ⟨q, 0, none⟩) 1 1] W fun e w' => e = .returned (.bool r.ok) ∧ Below W.heap.size W w' := by
  have := right_any (some ⟨q, 0, none⟩) [r] 1 W (by simp) (rcs_one h)
  simpa using this
section
variable {W : World} {B t M n : Nat} {m : Int → Option (Nat × KnD)}
set_option maxRecDepth 100000 in
set_option maxHeartbeats 4000000 in
theorem tb_bad (h : TbAt W B t M n m) (home k g i p pg u : Int) (key sb sa : ByteArray) (hb ha : Bool) (hok : Rc.ok ⟨k, g, i, p, pg, key, hb, sb, ha, sa, u⟩ = false) :
    Calls Try.prog 29 #[.pointer (some ⟨t, 0, none⟩), .int .i64 home, .agg #[.int .i64 k, .int .i64 g, .int .i64 i, .int .i64 p, .int .i64 pg, .string key, .bool hb, .string sb, .bool ha, .string sa, .int .i64 u]] W fun x w' => x = .returned (.int .i64 1) ∧ Below W.heap.size W w' := by
  have hb0 := (Below.refl W.heap.size W).alloc (Nat.le_refl _) (.cells #[.int .i64 k, .int .i64 g, .int .i64 i, .int .i64 p, .int .i64 pg, .string key, .bool hb, .string sb, .bool ha, .string sa, .int .i64 u] 38)
  have Q0 : Hid (R11 (W.alloc (.cells #[.int .i64 k, .int .i64 g, .int .i64 i, .int .i64 p, .int .i64 pg, .string key, .bool hb, .string sb, .bool ha, .string sa, .int .i64 u] 38)) W.heap.size ⟨k, g, i, p, pg, key, hb, sb, ha, sa, u⟩) := R11.new W ⟨k, g, i, p, pg, key, hb, sb, ha, sa, u⟩ 38
  have B0 := Lib.hid hb0
  have T0 := Lib.hid (h.below hb0)
  clear hb0 h
  go_enter Try.func29, Try.ntmps29
  go_upto_region 1 with fail
  generalize W.alloc (.cells #[.int .i64 k, .int .i64 g, .int .i64 i, .int .i64 p, .int .i64 pg, .string key, .bool hb, .string sb, .bool ha, .string sa, .int .i64 u] 38) = Y at *
  obtain ⟨c0, c1, c2, c3, c4, c5, c6, c7, c8, c9, c10⟩ := Q0.out.all
  have hb1 := (Below.refl Y.heap.size Y).alloc (Nat.le_refl _) (.cells #[.int .i64 k, .int .i64 g, .int .i64 i, .int .i64 p, .int .i64 pg, .string key, .bool hb, .string sb, .bool ha, .string sa, .int .i64 u] 38)
  have Q1 := Lib.hid (Q0.out.below hb1)
  have T1 := Lib.hid (T0.out.below hb1)
  have B1 := Lib.hid (B0.out.trans (hb1.mono B0.out.size))
  have KR : Hid (Calls Try.prog 47 #[.slice (some ⟨Y.heap.size, 0, none⟩) 1 1] (Y.alloc (.cells #[.int .i64 k, .int .i64 g, .int .i64 i, .int .i64 p, .int .i64 pg, .string key, .bool hb, .string sb, .bool ha, .string sa, .int .i64 u] 38)) fun e w' => e = .returned (.bool false) ∧ Below (Y.alloc (.cells #[.int .i64 k, .int .i64 g, .int .i64 i, .int .i64 p, .int .i64 pg, .string key, .bool hb, .string sb, .bool ha, .string sa, .int .i64 u] 38)).heap.size (Y.alloc (.cells #[.int .i64 k, .int .i64 g, .int .i64 i, .int .i64 p, .int .i64 pg, .string key, .bool hb, .string sb, .bool ha, .string sa, .int .i64 u] 38)) w') := by
    have := right_one (r := ⟨k, g, i, p, pg, key, hb, sb, ha, sa, u⟩) (R11.new Y ⟨k, g, i, p, pg, key, hb, sb, ha, sa, u⟩ 38)
    rw [hok] at this
    exact this
  clear hb1 Q0 B0 T0 hok
  go_wp2_with fail
  refine KR.out.mono ?_
  rintro x w1 ⟨rfl, hb2⟩
  have Q2 := Lib.hid (Q1.out.below hb2)
  have T2 := Lib.hid (T1.out.below hb2)
  have B2 := Lib.hid (B1.out.trans (hb2.mono B1.out.size))
  clear c0 c1 c2 c3 c4 c5 c6 c7 c8 c9 c10 hb2 Q1 T1 B1 KR
  generalize hq : W.heap.size = q at *
  go_wp2
  go_ret
  exact ⟨rfl, by first | exact B2.out | (rw [hq]; exact B2.out)⟩
set_option maxRecDepth 100000 in
set_option maxHeartbeats 4000000 in
theorem tb_none (h : TbAt W B t M n m) (home k g i p pg u : Int) (key sb sa : ByteArray) (hb ha : Bool) (hok : Rc.ok ⟨k, g, i, p, pg, key, hb, sb, ha, sa, u⟩ = true) (hi : (Lit.int .i64 i).wf = true) (hk : ¬ k = 1) (hm : m i = none) :
    Calls Try.prog 29 #[.pointer (some ⟨t, 0, none⟩), .int .i64 home, .agg #[.int .i64 k, .int .i64 g, .int .i64 i, .int .i64 p, .int .i64 pg, .string key, .bool hb, .string sb, .bool ha, .string sa, .int .i64 u]] W fun x w' => x = .returned (.int .i64 7) ∧ Below W.heap.size W w' := by
  have hb0 := (Below.refl W.heap.size W).alloc (Nat.le_refl _) (.cells #[.int .i64 k, .int .i64 g, .int .i64 i, .int .i64 p, .int .i64 pg, .string key, .bool hb, .string sb, .bool ha, .string sa, .int .i64 u] 38)
  have Q0 : Hid (R11 (W.alloc (.cells #[.int .i64 k, .int .i64 g, .int .i64 i, .int .i64 p, .int .i64 pg, .string key, .bool hb, .string sb, .bool ha, .string sa, .int .i64 u] 38)) W.heap.size ⟨k, g, i, p, pg, key, hb, sb, ha, sa, u⟩) := R11.new W ⟨k, g, i, p, pg, key, hb, sb, ha, sa, u⟩ 38
  have B0 := Lib.hid hb0
  have T0 := Lib.hid (h.below hb0)
  clear hb0 h
  go_enter Try.func29, Try.ntmps29
  go_upto_region 1 with fail
  generalize W.alloc (.cells #[.int .i64 k, .int .i64 g, .int .i64 i, .int .i64 p, .int .i64 pg, .string key, .bool hb, .string sb, .bool ha, .string sa, .int .i64 u] 38) = Y at *
  obtain ⟨c0, c1, c2, c3, c4, c5, c6, c7, c8, c9, c10⟩ := Q0.out.all
  have hb1 := (Below.refl Y.heap.size Y).alloc (Nat.le_refl _) (.cells #[.int .i64 k, .int .i64 g, .int .i64 i, .int .i64 p, .int .i64 pg, .string key, .bool hb, .string sb, .bool ha, .string sa, .int .i64 u] 38)
  have Q1 := Lib.hid (Q0.out.below hb1)
  have T1 := Lib.hid (T0.out.below hb1)
  have B1 := Lib.hid (B0.out.trans (hb1.mono B0.out.size))
  have KR : Hid (Calls Try.prog 47 #[.slice (some ⟨Y.heap.size, 0, none⟩) 1 1] (Y.alloc (.cells #[.int .i64 k, .int .i64 g, .int .i64 i, .int .i64 p, .int .i64 pg, .string key, .bool hb, .string sb, .bool ha, .string sa, .int .i64 u] 38)) fun e w' => e = .returned (.bool true) ∧ Below (Y.alloc (.cells #[.int .i64 k, .int .i64 g, .int .i64 i, .int .i64 p, .int .i64 pg, .string key, .bool hb, .string sb, .bool ha, .string sa, .int .i64 u] 38)).heap.size (Y.alloc (.cells #[.int .i64 k, .int .i64 g, .int .i64 i, .int .i64 p, .int .i64 pg, .string key, .bool hb, .string sb, .bool ha, .string sa, .int .i64 u] 38)) w') := by
    have := right_one (r := ⟨k, g, i, p, pg, key, hb, sb, ha, sa, u⟩) (R11.new Y ⟨k, g, i, p, pg, key, hb, sb, ha, sa, u⟩ 38)
    rw [hok] at this
    exact this
  clear hb1 Q0 B0 T0 hok
  go_wp2_with fail
  refine KR.out.mono ?_
  rintro x w1 ⟨rfl, hb2⟩
  have Q2 := Lib.hid (Q1.out.below hb2)
  have T2 := Lib.hid (T1.out.below hb2)
  have B2 := Lib.hid (B1.out.trans (hb2.mono B1.out.size))
  clear c0 c1 c2 c3 c4 c5 c6 c7 c8 c9 c10 hb2 Q1 T1 B1 KR
  generalize hq : W.heap.size = q at *
  have c2 := (Q2.out.all).2.2.1
  have ct := T2.out.ct
  have lk2 : ∀ j, (Instr.lookup 68 (.map (some M)) (.int .i64 i) false).run Try.prog (w1.drewN j) = .ok (.pointer none) (w1.drewN j) := fun j => by
    have := (FrAt.of_block (W' := w1.drewN j) T2.out.fr rfl).look i hi
    rw [hm] at this
    exact this
  go_upto_region 3 with fail
  go_quiet (fail)
  have Q3 : Hid (R11 (w1.drewN nq) q ⟨k, g, i, p, pg, key, hb, sb, ha, sa, u⟩) := Q2.out.below (below_drewN (Below.refl _ _) nq)
  have T3 : Hid (TbAt (w1.drewN nq) B t M n m) := T2.out.below (below_drewN (Below.refl _ _) nq)
  have B3 : Hid (Below q W (w1.drewN nq)) := below_drewN B2.out nq
  clear Q2 T2 B2 lk2 c2 ct
  generalize w1.drewN nq = Z at *
  obtain ⟨c0, c1, c2, c3, c4, c5, c6, c7, c8, c9, c10⟩ := Q3.out.all
  go_wp2
  go_ret
  exact ⟨rfl, by first | exact B3.out | (rw [hq]; exact B3.out)⟩
set_option maxRecDepth 100000 in
set_option maxHeartbeats 4000000 in
theorem tb_twice (h : TbAt W B t M n m) (home k g i p pg u : Int) (key sb sa : ByteArray) (hb ha : Bool) (hok : Rc.ok ⟨k, g, i, p, pg, key, hb, sb, ha, sa, u⟩ = true) (hi : (Lit.int .i64 i).wf = true) (hk : k = 1) {K : Nat} {d : KnD} (hm : m i = some (K, d)) :
    Calls Try.prog 29 #[.pointer (some ⟨t, 0, none⟩), .int .i64 home, .agg #[.int .i64 k, .int .i64 g, .int .i64 i, .int .i64 p, .int .i64 pg, .string key, .bool hb, .string sb, .bool ha, .string sa, .int .i64 u]] W fun x w' => x = .returned (.int .i64 8) ∧ Below W.heap.size W w' := by
  have HK := Lib.hid hk
  clear hk
  have hb0 := (Below.refl W.heap.size W).alloc (Nat.le_refl _) (.cells #[.int .i64 k, .int .i64 g, .int .i64 i, .int .i64 p, .int .i64 pg, .string key, .bool hb, .string sb, .bool ha, .string sa, .int .i64 u] 38)
  have Q0 : Hid (R11 (W.alloc (.cells #[.int .i64 k, .int .i64 g, .int .i64 i, .int .i64 p, .int .i64 pg, .string key, .bool hb, .string sb, .bool ha, .string sa, .int .i64 u] 38)) W.heap.size ⟨k, g, i, p, pg, key, hb, sb, ha, sa, u⟩) := R11.new W ⟨k, g, i, p, pg, key, hb, sb, ha, sa, u⟩ 38
  have B0 := Lib.hid hb0
  have T0 := Lib.hid (h.below hb0)
  clear hb0 h
  go_enter Try.func29, Try.ntmps29
  go_upto_region 1 with fail
  generalize W.alloc (.cells #[.int .i64 k, .int .i64 g, .int .i64 i, .int .i64 p, .int .i64 pg, .string key, .bool hb, .string sb, .bool ha, .string sa, .int .i64 u] 38) = Y at *
  obtain ⟨c0, c1, c2, c3, c4, c5, c6, c7, c8, c9, c10⟩ := Q0.out.all
  have hb1 := (Below.refl Y.heap.size Y).alloc (Nat.le_refl _) (.cells #[.int .i64 k, .int .i64 g, .int .i64 i, .int .i64 p, .int .i64 pg, .string key, .bool hb, .string sb, .bool ha, .string sa, .int .i64 u] 38)
  have Q1 := Lib.hid (Q0.out.below hb1)
  have T1 := Lib.hid (T0.out.below hb1)
  have B1 := Lib.hid (B0.out.trans (hb1.mono B0.out.size))
  have KR : Hid (Calls Try.prog 47 #[.slice (some ⟨Y.heap.size, 0, none⟩) 1 1] (Y.alloc (.cells #[.int .i64 k, .int .i64 g, .int .i64 i, .int .i64 p, .int .i64 pg, .string key, .bool hb, .string sb, .bool ha, .string sa, .int .i64 u] 38)) fun e w' => e = .returned (.bool true) ∧ Below (Y.alloc (.cells #[.int .i64 k, .int .i64 g, .int .i64 i, .int .i64 p, .int .i64 pg, .string key, .bool hb, .string sb, .bool ha, .string sa, .int .i64 u] 38)).heap.size (Y.alloc (.cells #[.int .i64 k, .int .i64 g, .int .i64 i, .int .i64 p, .int .i64 pg, .string key, .bool hb, .string sb, .bool ha, .string sa, .int .i64 u] 38)) w') := by
    have := right_one (r := ⟨k, g, i, p, pg, key, hb, sb, ha, sa, u⟩) (R11.new Y ⟨k, g, i, p, pg, key, hb, sb, ha, sa, u⟩ 38)
    rw [hok] at this
    exact this
  clear hb1 Q0 B0 T0 hok
  go_wp2_with fail
  refine KR.out.mono ?_
  rintro x w1 ⟨rfl, hb2⟩
  have Q2 := Lib.hid (Q1.out.below hb2)
  have T2 := Lib.hid (T1.out.below hb2)
  have B2 := Lib.hid (B1.out.trans (hb2.mono B1.out.size))
  clear c0 c1 c2 c3 c4 c5 c6 c7 c8 c9 c10 hb2 Q1 T1 B1 KR
  generalize hq : W.heap.size = q at *
  have c2 := (Q2.out.all).2.2.1
  have ct := T2.out.ct
  have lk2 : ∀ j, (Instr.lookup 68 (.map (some M)) (.int .i64 i) false).run Try.prog (w1.drewN j) = .ok (.pointer (some ⟨K, 0, none⟩)) (w1.drewN j) := fun j => by
    have := (FrAt.of_block (W' := w1.drewN j) T2.out.fr rfl).look i hi
    rw [hm] at this
    exact this
  go_upto_region 3 with fail
  go_quiet (fail)
  have Q3 : Hid (R11 (w1.drewN nq) q ⟨k, g, i, p, pg, key, hb, sb, ha, sa, u⟩) := Q2.out.below (below_drewN (Below.refl _ _) nq)
  have T3 : Hid (TbAt (w1.drewN nq) B t M n m) := T2.out.below (below_drewN (Below.refl _ _) nq)
  have B3 : Hid (Below q W (w1.drewN nq)) := below_drewN B2.out nq
  clear Q2 T2 B2 lk2 c2 ct
  generalize w1.drewN nq = Z at *
  obtain ⟨c0, c1, c2, c3, c4, c5, c6, c7, c8, c9, c10⟩ := Q3.out.all
  have hk := HK.out
  subst hk
  go_wp2
  go_ret
  exact ⟨rfl, by first | exact B3.out | (rw [hq]; exact B3.out)⟩
set_option maxRecDepth 100000 in
set_option maxHeartbeats 4000000 in
theorem tb_known (h : TbAt W B t M n m) (home k g i p pg u : Int) (key sb sa : ByteArray) (hb ha : Bool) (hok : Rc.ok ⟨k, g, i, p, pg, key, hb, sb, ha, sa, u⟩ = true) (hi : (Lit.int .i64 i).wf = true) (hk : ¬ k = 1) {K : Nat} {d : KnD} (hm : m i = some (K, d)) (e : Int) (R : World → World → Prop)
    (KN : ∀ X, W.heap.size ≤ X.heap.size → KnIs X B K d → Calls Try.prog 49 #[.pointer (some ⟨K, 0, none⟩), .agg #[.int .i64 k, .int .i64 g, .int .i64 i, .int .i64 p, .int .i64 pg, .string key, .bool hb, .string sb, .bool ha, .string sa, .int .i64 u]] X fun x w' => x = .returned (.int .i64 e) ∧ R X w') :
    Calls Try.prog 29 #[.pointer (some ⟨t, 0, none⟩), .int .i64 home, .agg #[.int .i64 k, .int .i64 g, .int .i64 i, .int .i64 p, .int .i64 pg, .string key, .bool hb, .string sb, .bool ha, .string sa, .int .i64 u]] W fun x w' => x = .returned (.int .i64 e) ∧ ∃ X, Below W.heap.size W X ∧ TbAt X B t M n m ∧ R X w' := by
  have KN := Lib.hid KN
  have hb0 := (Below.refl W.heap.size W).alloc (Nat.le_refl _) (.cells #[.int .i64 k, .int .i64 g, .int .i64 i, .int .i64 p, .int .i64 pg, .string key, .bool hb, .string sb, .bool ha, .string sa, .int .i64 u] 38)
  have Q0 : Hid (R11 (W.alloc (.cells #[.int .i64 k, .int .i64 g, .int .i64 i, .int .i64 p, .int .i64 pg, .string key, .bool hb, .string sb, .bool ha, .string sa, .int .i64 u] 38)) W.heap.size ⟨k, g, i, p, pg, key, hb, sb, ha, sa, u⟩) := R11.new W ⟨k, g, i, p, pg, key, hb, sb, ha, sa, u⟩ 38
  have B0 := Lib.hid hb0
  have T0 := Lib.hid (h.below hb0)
  clear hb0 h
  go_enter Try.func29, Try.ntmps29
  go_upto_region 1 with fail
  generalize W.alloc (.cells #[.int .i64 k, .int .i64 g, .int .i64 i, .int .i64 p, .int .i64 pg, .string key, .bool hb, .string sb, .bool ha, .string sa, .int .i64 u] 38) = Y at *
  obtain ⟨c0, c1, c2, c3, c4, c5, c6, c7, c8, c9, c10⟩ := Q0.out.all
  have hb1 := (Below.refl Y.heap.size Y).alloc (Nat.le_refl _) (.cells #[.int .i64 k, .int .i64 g, .int .i64 i, .int .i64 p, .int .i64 pg, .string key, .bool hb, .string sb, .bool ha, .string sa, .int .i64 u] 38)
  have Q1 := Lib.hid (Q0.out.below hb1)
  have T1 := Lib.hid (T0.out.below hb1)
  have B1 := Lib.hid (B0.out.trans (hb1.mono B0.out.size))
  have KR : Hid (Calls Try.prog 47 #[.slice (some ⟨Y.heap.size, 0, none⟩) 1 1] (Y.alloc (.cells #[.int .i64 k, .int .i64 g, .int .i64 i, .int .i64 p, .int .i64 pg, .string key, .bool hb, .string sb, .bool ha, .string sa, .int .i64 u] 38)) fun e w' => e = .returned (.bool true) ∧ Below (Y.alloc (.cells #[.int .i64 k, .int .i64 g, .int .i64 i, .int .i64 p, .int .i64 pg, .string key, .bool hb, .string sb, .bool ha, .string sa, .int .i64 u] 38)).heap.size (Y.alloc (.cells #[.int .i64 k, .int .i64 g, .int .i64 i, .int .i64 p, .int .i64 pg, .string key, .bool hb, .string sb, .bool ha, .string sa, .int .i64 u] 38)) w') := by
    have := right_one (r := ⟨k, g, i, p, pg, key, hb, sb, ha, sa, u⟩) (R11.new Y ⟨k, g, i, p, pg, key, hb, sb, ha, sa, u⟩ 38)
    rw [hok] at this
    exact this
  clear hb1 Q0 B0 T0 hok
  go_wp2_with fail
  refine KR.out.mono ?_
  rintro x w1 ⟨rfl, hb2⟩
  have Q2 := Lib.hid (Q1.out.below hb2)
  have T2 := Lib.hid (T1.out.below hb2)
  have B2 := Lib.hid (B1.out.trans (hb2.mono B1.out.size))
  clear c0 c1 c2 c3 c4 c5 c6 c7 c8 c9 c10 hb2 Q1 T1 B1 KR
  generalize hq : W.heap.size = q at *
  have c2 := (Q2.out.all).2.2.1
  have ct := T2.out.ct
  have lk2 : ∀ j, (Instr.lookup 68 (.map (some M)) (.int .i64 i) false).run Try.prog (w1.drewN j) = .ok (.pointer (some ⟨K, 0, none⟩)) (w1.drewN j) := fun j => by
    have := (FrAt.of_block (W' := w1.drewN j) T2.out.fr rfl).look i hi
    rw [hm] at this
    exact this
  go_upto_region 3 with fail
  go_quiet (fail)
  have Q3 : Hid (R11 (w1.drewN nq) q ⟨k, g, i, p, pg, key, hb, sb, ha, sa, u⟩) := Q2.out.below (below_drewN (Below.refl _ _) nq)
  have T3 : Hid (TbAt (w1.drewN nq) B t M n m) := T2.out.below (below_drewN (Below.refl _ _) nq)
  have B3 : Hid (Below q W (w1.drewN nq)) := below_drewN B2.out nq
  clear Q2 T2 B2 lk2 c2 ct
  generalize w1.drewN nq = Z at *
  obtain ⟨c0, c1, c2, c3, c4, c5, c6, c7, c8, c9, c10⟩ := Q3.out.all
  have KN2 := Lib.hid (KN.out Z (by have := B3.out.size; omega) (T3.out.kn i K d hm))
  go_wp2_with fail
  refine KN2.out.mono ?_
  rintro x w4 ⟨rfl, hR⟩
  go_wp2
  go_ret
  exact ⟨rfl, Z, by first | exact B3.out | (rw [hq]; exact B3.out), T3.out, hR⟩
set_option maxRecDepth 100000 in
set_option maxHeartbeats 4000000 in
theorem tb_begin (h : TbAt W B t M n m) (home k g i p pg u : Int) (key sb sa : ByteArray) (hb ha : Bool) (hok : Rc.ok ⟨k, g, i, p, pg, key, hb, sb, ha, sa, u⟩ = true) (hi : (Lit.int .i64 i).wf = true) (hk : k = 1) (hm : m i = none) (hn : n < maxLen) :
    Calls Try.prog 29 #[.pointer (some ⟨t, 0, none⟩), .int .i64 home, .agg #[.int .i64 k, .int .i64 g, .int .i64 i, .int .i64 p, .int .i64 pg, .string key, .bool hb, .string sb, .bool ha, .string sa, .int .i64 u]] W fun x w' => x = .returned (.int .i64 0) ∧ ∃ K, TbP W B t M (n + 1) m (updM m i (K, newKn home g i)) w' := by
  have HK := Lib.hid hk
  clear hk
  have hb0 := (Below.refl W.heap.size W).alloc (Nat.le_refl _) (.cells #[.int .i64 k, .int .i64 g, .int .i64 i, .int .i64 p, .int .i64 pg, .string key, .bool hb, .string sb, .bool ha, .string sa, .int .i64 u] 38)
  have Q0 : Hid (R11 (W.alloc (.cells #[.int .i64 k, .int .i64 g, .int .i64 i, .int .i64 p, .int .i64 pg, .string key, .bool hb, .string sb, .bool ha, .string sa, .int .i64 u] 38)) W.heap.size ⟨k, g, i, p, pg, key, hb, sb, ha, sa, u⟩) := R11.new W ⟨k, g, i, p, pg, key, hb, sb, ha, sa, u⟩ 38
  have B0 := Lib.hid hb0
  have T0 := Lib.hid (h.below hb0)
  clear hb0 h
  go_enter Try.func29, Try.ntmps29
  go_upto_region 1 with fail
  generalize W.alloc (.cells #[.int .i64 k, .int .i64 g, .int .i64 i, .int .i64 p, .int .i64 pg, .string key, .bool hb, .string sb, .bool ha, .string sa, .int .i64 u] 38) = Y at *
  obtain ⟨c0, c1, c2, c3, c4, c5, c6, c7, c8, c9, c10⟩ := Q0.out.all
  have hb1 := (Below.refl Y.heap.size Y).alloc (Nat.le_refl _) (.cells #[.int .i64 k, .int .i64 g, .int .i64 i, .int .i64 p, .int .i64 pg, .string key, .bool hb, .string sb, .bool ha, .string sa, .int .i64 u] 38)
  have Q1 := Lib.hid (Q0.out.below hb1)
  have T1 := Lib.hid (T0.out.below hb1)
  have B1 := Lib.hid (B0.out.trans (hb1.mono B0.out.size))
  have KR : Hid (Calls Try.prog 47 #[.slice (some ⟨Y.heap.size, 0, none⟩) 1 1] (Y.alloc (.cells #[.int .i64 k, .int .i64 g, .int .i64 i, .int .i64 p, .int .i64 pg, .string key, .bool hb, .string sb, .bool ha, .string sa, .int .i64 u] 38)) fun e w' => e = .returned (.bool true) ∧ Below (Y.alloc (.cells #[.int .i64 k, .int .i64 g, .int .i64 i, .int .i64 p, .int .i64 pg, .string key, .bool hb, .string sb, .bool ha, .string sa, .int .i64 u] 38)).heap.size (Y.alloc (.cells #[.int .i64 k, .int .i64 g, .int .i64 i, .int .i64 p, .int .i64 pg, .string key, .bool hb, .string sb, .bool ha, .string sa, .int .i64 u] 38)) w') := by
    have := right_one (r := ⟨k, g, i, p, pg, key, hb, sb, ha, sa, u⟩) (R11.new Y ⟨k, g, i, p, pg, key, hb, sb, ha, sa, u⟩ 38)
    rw [hok] at this
    exact this
  clear hb1 Q0 B0 T0 hok
  go_wp2_with fail
  refine KR.out.mono ?_
  rintro x w1 ⟨rfl, hb2⟩
  have Q2 := Lib.hid (Q1.out.below hb2)
  have T2 := Lib.hid (T1.out.below hb2)
  have B2 := Lib.hid (B1.out.trans (hb2.mono B1.out.size))
  clear c0 c1 c2 c3 c4 c5 c6 c7 c8 c9 c10 hb2 Q1 T1 B1 KR
  generalize hq : W.heap.size = q at *
  have c2 := (Q2.out.all).2.2.1
  have ct := T2.out.ct
  have lk2 : ∀ j, (Instr.lookup 68 (.map (some M)) (.int .i64 i) false).run Try.prog (w1.drewN j) = .ok (.pointer none) (w1.drewN j) := fun j => by
    have := (FrAt.of_block (W' := w1.drewN j) T2.out.fr rfl).look i hi
    rw [hm] at this
    exact this
  go_upto_region 3 with fail
  go_quiet (fail)
  have Q3 : Hid (R11 (w1.drewN nq) q ⟨k, g, i, p, pg, key, hb, sb, ha, sa, u⟩) := Q2.out.below (below_drewN (Below.refl _ _) nq)
  have T3 : Hid (TbAt (w1.drewN nq) B t M n m) := T2.out.below (below_drewN (Below.refl _ _) nq)
  have B3 : Hid (Below q W (w1.drewN nq)) := below_drewN B2.out nq
  clear Q2 T2 B2 lk2 c2 ct
  generalize w1.drewN nq = Z at *
  obtain ⟨c0, c1, c2, c3, c4, c5, c6, c7, c8, c9, c10⟩ := Q3.out.all
  have hk := HK.out
  subst hk
  have KB : Hid (∀ X : World, B ≤ X.heap.size → Calls Try.prog 48 #[.int .i64 home, .agg #[.int .i64 1, .int .i64 g, .int .i64 i, .int .i64 p, .int .i64 pg, .string key, .bool hb, .string sb, .bool ha, .string sa, .int .i64 u]] X fun x w' => ∃ K, x = .returned (.pointer (some ⟨K, 0, none⟩)) ∧ KnIs w' B K (newKn home g i) ∧ Below X.heap.size X w' ∧ X.heap.size ≤ K) := fun X hX => (begun_any home 1 g i p pg u key sb sa hb ha X B hX).mono (by
    rintro x w' ⟨rfl, h1, h2⟩
    exact ⟨_, rfl, h1, h2, Nat.le_succ _⟩)
  have ct := T3.out.ct
  have HZ := Lib.hid ((Below.refl Z.heap.size Z).drew)
  have HBZ : Hid (B ≤ Z.drew.heap.size) := Nat.le_trans T3.out.lo.2 (Nat.le_of_lt T3.out.lts.2)
  have HW : Hid (Below W.heap.size W Z) := by first | exact B3.out | (rw [hq]; exact B3.out)
  clear B3
  go_upto_region 7 with fail
  go_region_law ((first
    | (go_simp; go_at_call 48; (with_reducible refine (KB.out _ HBZ.out).mono ?_); rintro x w2 ⟨K, rfl, hk2, hb2, hK2⟩; have hb3 := HZ.out.trans (hb2.mono HZ.out.size); have T4 := T3.out.below hb3; have ct4 := T4.ct; obtain ⟨_, _, d2, _⟩ := (Q3.out.below hb3).all; obtain ⟨W5, hst, hf5, hg5, hz5⟩ := T4.fr.store i hi K hn; have T9 := Lib.hid (T3.out.begun HW.out hm hb3 hk2 hK2 hf5 hg5); clear hk2 hb2 hb3 T4 hf5 hg5 hz5 hK2; go_simp)))
  all_goals
    go_wp2
    go_ret
    exact ⟨rfl, _, T9.out⟩
end
end Go.Proofs.Ytophbefmlfieeaa
