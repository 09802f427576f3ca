/-
  A TABLE OF LOCKS: letGo, of any owner.
-/
import Derived.Test.YtjojempjmpaaaaaLkm7
import Derived.Test.YtjojempjmpaaaaaLkIter
namespace Go.Proofs.Ytjojempjmpaaaaa
open Go.RowKit Go.Maps Go.ChangeMaps Go.MapKept Go.WideElems Go.WideMaps
section
variable {B : Nat} {W X : World} {T ml mh mw n : Nat} {s s' : Lk} {o : Int}
theorem Nt.sub {g : Nat} (h : Nt s T g) (hl : s'.lk = s.lk) (hq : ∀ i k y, y ∈ s'.q i k → y ∈ s.q i k) (hp : s'.pas = s.pas) : Nt s' T g :=
  ⟨h.t, fun k K e => h.k k K (by rw [← hl]; exact e), fun i k x hi hx => h.x i k x hi (hq i k x hx), by rw [hp]; exact h.p⟩
/-- What is held by an owner, as its map has it. -/
theorem LkAt.iter0 (h : LkAt B W T ml mh mw n s) (o : Int) : ∃ D0 : DataW Unit, (∀ m, s.hm o = some m → W.ownsMap Try.prog 9 (rdB pV (H := Unit)) m n D0) ∧ (∀ m, s.hm o = some m → ∀ x : ByteArray, D0.atKey (.string x.data.toList) (.lit (.int .i64 0)) = .lit (.int .i64 (encF (s.hd o x)))) ∧ (∀ t : ByteArray, lf0 (s.hm o) D0 (.string t.data.toList) = (s.hd o t).isSome) ∧ cnt0 (s.hm o) D0 ≤ n := by
  cases hm : s.hm o with
  | none => exact ⟨.map [], fun m e => by (cases e), fun m e => by (cases e), fun t => by rw [h.hn o hm t]; rfl, Nat.zero_le _⟩
  | some m =>
    obtain ⟨D0, h1, h2, h3⟩ := h.md o m hm
    refine ⟨D0, fun m' e => by (injection e with e; rw [← e]; exact h1), fun _ _ x => h2 x, fun t => h3 t, ?_⟩
    exact h1.size_le
structure LgA (B : Nat) (W wr : World) (T ml mh mw n : Nat) (R : Nat) (s : Lk) (o : Int) (D0 : DataW Unit) (pre dn : List ByteArray) (v : Value) (lf : Lit → Bool) (cnt : Nat) : Prop where
  t : LkAt B wr T ml mh mw n (dropS s o dn)
  rg : It wr (s.hm o) R n D0 lf cnt
  lf : ∀ t : ByteArray, lf (.string t.data.toList) = true ↔ (s.hd o t ≠ none ∧ t ∉ dn)
  mem : ∀ k, k ∈ dn → s.hd o k ≠ none
  row : RowS wr W.heap.size v (pre ++ dn)
  f0 : pre ++ dn = [] → v = .slice none 0 0
  fn : ∀ g, v.ownBlock = some g → Nt (dropS s o dn) T g
  cn : dn.length + cnt ≤ n
  bw : Below B W wr
  hR : (T < R ∧ ml < R ∧ mh < R ∧ mw < R ∧ ∀ o m, s.hm o = some m → m < R) ∧ W.heap.size ≤ R
/-- What letGo leaves. -/
def GoA (B : Nat) (T ml mh mw n : Nat) (s : Lk) (o : Int) (W : World) (e : Ending) (W' : World) : Prop :=
  ∃ v kl, e = .returned v ∧ RowS W' W.heap.size v kl ∧ (kl = [] → v = .slice none 0 0) ∧ LkAt B W' T ml mh mw (n + 1) (goneT s o) ∧ (∀ g, v.ownBlock = some g → Nt (goneT s o) T g) ∧ (∀ k, k ∈ kl ↔ keysOf s o k) ∧ kl.length ≤ n + 2 ∧ Below B W W'
/-- The end of the walk. -/
theorem LgA.fin {wr : World} {R : Nat} {D0 : DataW Unit} {pre dn : List ByteArray} {v : Value} {lf : Lit → Bool} {cnt : Nat} (h : LgA B W wr T ml mh mw n R s o D0 pre dn v lf cnt) (hc : LkC s) (hl : ∀ kl, lf kl = false)
    (hm : MAt iKy mV X mh n (updM (dropS s o dn).hm o none)) (hg : wr.grownBy X (some mh)) :
    RowS X W.heap.size v (pre ++ dn) ∧ LkAt B X T ml mh mw n (goneH s o) ∧ (∀ g, v.ownBlock = some g → Nt (goneH s o) T g) ∧ (∀ k, k ∈ dn ↔ s.hd o k ≠ none) ∧ dn.length ≤ n ∧ Below B W X := by
  have ha : ∀ k, s.hd o k ≠ none → k ∈ dn := fun k hk => Classical.byContradiction fun c => by
    have := (h.lf k).2 ⟨hk, c⟩
    rw [hl] at this; cases this
  have e := dropS_all hc ha
  have t2 := h.t.delHeld hm hg
  rw [e] at t2
  refine ⟨ownsRow_of h.row (fun g e2 => ?_), t2, fun g e2 => ?_, fun k => ⟨h.mem k, ha k⟩, by have := h.cn; omega, h.bw.trans (h.t.grownB h.t.bt.2.2.1 hg)⟩
  · obtain ⟨⟨u, hu⟩, _⟩ := own0 h.row (by decide) (fun e => h.f0 (List.length_eq_zero_iff.1 e)) g e2
    exact hg.block g (block_lt (p := ⟨g, 0, none⟩) hu) (fun c => by
      injection c with c
      exact h.t.m1.ne hu c.symm)
  · have n1 := h.fn g e2
    rw [← e]
    exact ⟨n1.t, n1.k, n1.x, n1.p⟩
/-- An iterator's turn leaves all else. -/
theorem LgA.turn {wr : World} {R : Nat} {D0 : DataW Unit} {pre dn : List ByteArray} {v : Value} {lf : Lit → Bool} {cnt : Nat} (h : LgA B W wr T ml mh mw n R s o D0 pre dn v lf cnt) (hB : B ≤ W.heap.size) (hg : wr.grownBy X (some R)) :
    LkAt B X T ml mh mw n (dropS s o dn) ∧ RowS X W.heap.size v (pre ++ dn) ∧ Below B W X := by
  obtain ⟨⟨r0, r1, r2, r3, r4⟩, r5⟩ := h.hR
  refine ⟨h.t.turn h.rg.no_cell ⟨r1, r2, r3, r4⟩ hg, ownsRow_of h.row (fun g e2 => ?_), h.bw.trans ((Below.refl B wr).grown hg h.t.lts (fun g e => by injection e with e; omega))⟩
  obtain ⟨⟨u, hu⟩, _⟩ := own0 h.row (by decide) (fun e => h.f0 (List.length_eq_zero_iff.1 e)) g e2
  exact hg.block g (block_lt (p := ⟨g, 0, none⟩) hu) (fun c => by
    injection c with c
    rw [c, h.rg.no_cell] at hu; cases hu)
/-- What a round leaves. -/
theorem LgA.next {w2 w3 w5 : World} {R : Nat} {D0 : DataW Unit} {pre dn : List ByteArray} {v v' : Value} {lf : Lit → Bool} {cnt cnt1 : Nat} {wr : World} (h : LgA B W wr T ml mh mw n R s o D0 pre dn v lf cnt) (hc : LkC s) {x : ByteArray} {K w : Nat} {q1 q2 : List Nat}
    (hlf : lf (.string x.data.toList) = true) (hw : s.hd o x = some w) (he : s.q 0 x = q1 ++ w :: q2) (hk : s.lk x = some K) (hBW : B ≤ W.heap.size)
    (hit : It w2 (s.hm o) R n D0 (fun z => lf z && !z.sameKey (.string x.data.toList)) cnt1) (hlt : cnt1 < cnt) (ht2 : LkAt B w2 T ml mh mw n (dropS s o dn)) (hrow2 : RowS w2 W.heap.size v (pre ++ dn)) (hb2 : Below B W w2)
    (hq : QAt w3 K (2 * 0) (q1 ++ q2)) (hcf : Cf w2 w3 (DropS K (2 * 0) (q1 ++ q2)))
    (hrow : RowS w5 W.heap.size v' ((pre ++ dn) ++ [x])) (hg : (w3.alloc (.cells #[.string x] 9)).grownBy w5 v.ownBlock) (hv : v'.ownBlock = v.ownBlock ∨ v'.ownBlock = some (w3.heap.size + 1)) :
    LgA B W w5 T ml mh mw n R s o D0 pre (dn ++ [x]) v' (fun z => lf z && !z.sameKey (.string x.data.toList)) cnt1 ∧ It w5 (s.hm o) R n D0 (fun z => lf z && !z.sameKey (.string x.data.toList)) cnt1 := by
  have hx := (h.lf x).1 hlf
  have hq0 : (dropS s o dn).q 0 x = q1 ++ w :: q2 := ((dropS_q dn).1 hx.2 0).trans he
  have hk2 : (dropS s o dn).lk x = some K := hk
  have hQ := ht2.qa x K hk2 0 (by decide)
  obtain ⟨h3, _⟩ := ht2.dropQ (i := 0) (by decide) hk2 hq0 hq hcf
  have hb3 := hb2.trans (ht2.drop_below (i := 0) (by decide) hk2 hq0 hcf)
  have eS := dropS_snoc hc (dn := dn) hw he
  have nS : ∀ b', (∀ {i v}, w2.cell? ⟨b', i, none⟩ = some v → False) → ∀ j, ¬ DropS K (2 * 0) (q1 ++ q2) b' j := fun b' hb' j q => by
    rcases q with ⟨q, _⟩ | ⟨q, _⟩
    · exact hb' (q ▸ hQ.f)
    · refine hb' (ht2.wc 0 x b' (by decide) ?_).c0
      rw [hq0]
      rcases List.mem_append.1 q with q | q
      · exact List.mem_append_left _ q
      · exact List.mem_append_right _ (List.mem_cons_of_mem _ q)
  have subQ : ∀ i k y, y ∈ (dropS s o (dn ++ [x])).q i k → y ∈ (dropS s o dn).q i k := fun i k y hy => by
    rw [← eS] at hy
    have hy : y ∈ updQ (dropS s o dn).q 0 x (q1 ++ q2) i k := hy
    by_cases c : i = 0 ∧ k = x
    · obtain ⟨rfl, rfl⟩ := c
      rw [updQ_same] at hy
      rw [hq0]
      rcases List.mem_append.1 hy with q | q
      · exact List.mem_append_left _ q
      · exact List.mem_append_right _ (List.mem_cons_of_mem _ q)
    · rw [updQ_other _ _ c] at hy; exact hy
  rw [eS] at h3
  have own2 := own0 hrow2 (by decide) (fun e => h.f0 (List.length_eq_zero_iff.1 e))
  have row3 : RowS w3 W.heap.size v (pre ++ dn) := ownsRow_of hrow2 (fun g e2 => by
    obtain ⟨⟨u, hu⟩, _⟩ := own2 g e2
    refine hcf.block g (block_lt (p := ⟨g, 0, none⟩) hu) (fun j q => ?_)
    rcases q with ⟨q, _⟩ | ⟨q, _⟩
    · exact (h.fn g e2).k x K hk2 q
    · refine (h.fn g e2).x 0 x g (by decide) ?_ rfl
      rw [hq0]
      rcases List.mem_append.1 q with q | q
      · exact List.mem_append_left _ q
      · exact List.mem_append_right _ (List.mem_cons_of_mem _ q))
  have it3 : It w3 (s.hm o) R n D0 (fun z => lf z && !z.sameKey (.string x.data.toList)) cnt1 := hit.keep (fun m hm => hcf.block m (ht2.md o m hm).lt (nS m (fun hb' => by rw [(ht2.md o m hm).no_cell] at hb'; cases hb'))) (hcf.block R hit.lt (nS R (fun hb' => by rw [hit.no_cell] at hb'; cases hb')))
  have ba : Below w3.heap.size w3 (w3.alloc (.cells #[.string x] 9)) := (Below.refl _ _).alloc (Nat.le_refl _) _
  have h4 := h3.below ba
  have row4 : RowS (w3.alloc (.cells #[.string x] 9)) W.heap.size v (pre ++ dn) := RowS.below row3 ba
  have it4 : It (w3.alloc (.cells #[.string x] 9)) (s.hm o) R n D0 (fun z => lf z && !z.sameKey (.string x.data.toList)) cnt1 := it3.keep (fun m hm => ba.block m (h3.md o m hm).lt) (ba.block R it3.lt)
  have own4 := own0 row4 (by decide) (fun e => h.f0 (List.length_eq_zero_iff.1 e))
  obtain ⟨h5, b5, n5⟩ := h4.appended (v := v) (v' := v') (fun g e2 => ⟨(h.fn g e2).sub rfl subQ rfl, (own4 g e2).1, Nat.le_trans hBW (own4 g e2).2.1⟩) hg (by rw [World.size_alloc]; exact hv)
  have it5 : It w5 (s.hm o) R n D0 (fun z => lf z && !z.sameKey (.string x.data.toList)) cnt1 := it4.keep (fun m hm => hg.block m (h4.md o m hm).lt (fun c => by
    obtain ⟨⟨u, hu⟩, _⟩ := own4 m c.symm
    rw [(h4.md o m hm).no_cell] at hu; cases hu)) (hg.block R it4.lt (fun c => by
    obtain ⟨⟨u, hu⟩, _⟩ := own4 R c.symm
    rw [it4.no_cell] at hu; cases hu))
  refine ⟨⟨h5, it5, fun t => ?_, fun k hk => ?_, by rw [← List.append_assoc]; exact hrow, fun e => by simp at e, n5, by rw [List.length_append, List.length_singleton]; have := h.cn; omega, (hb3.trans (ba.mono h3.lts)).trans b5, h.hR⟩, it5⟩
  · rw [Bool.and_eq_true, h.lf t, List.mem_append, List.mem_singleton]
    constructor
    · rintro ⟨⟨c1, c2⟩, c3⟩
      exact ⟨c1, fun c => c.elim c2 (fun e => by subst e; simp [Lit.sameKey] at c3)⟩
    · rintro ⟨c1, c2⟩
      refine ⟨⟨c1, fun c => c2 (.inl c)⟩, ?_⟩
      have : t.data.toList ≠ x.data.toList := fun e => c2 (.inr (by
        have e2 : t.data = x.data := Array.toList_inj.1 e
        cases t; cases x; exact congrArg ByteArray.mk e2))
      simp [Lit.sameKey]
      exact fun e => this (by rw [e])
  · rcases List.mem_append.1 hk with c | c
    · exact h.mem k c
    · rw [List.mem_singleton.1 c, hw]; simp
set_option maxRecDepth 100000 in
set_option maxHeartbeats 4000000 in
theorem letGo_n (h : LkAt B W T ml mh mw n s) (hc : LkC s) (hwf : (Lit.int .i64 o).wf = true) (hwt : s.wt o = none) (hn : n ≤ 900000) :
    Calls Try.prog 37 #[.pointer (some ⟨T, 0, none⟩), .int .i64 o] W (GoA B T ml mh mw n s o W) := by
  have eL := Lib.hid (leftT_none hc hwt)
  have t1 := h.t1
  have t2 := h.t2
  have l2 := h.m2.look waitsMap o hwf
  rw [hwt] at l2
  replace l2 : (Instr.lookup 58 (.map (some mw)) (.int .i64 o) false).run Try.prog W = .ok (.pointer none) W := l2
  have l1 := h.m1.look heldMap o hwf
  replace l1 : (Instr.lookup 57 (.map (some mh)) (.int .i64 o) false).run Try.prog W = .ok (mV (s.hm o)) W := l1
  obtain ⟨D0, hown, hat0, hhas, hcn⟩ := h.iter0 o
  have HAT := Lib.hid hat0
  have HC1 := Lib.hid hc
  have HWT := Lib.hid hwt
  have HBW := Lib.hid h.lts
  have S00 : ∀ w0, It w0 (s.hm o) W.heap.size n D0 (lf0 (s.hm o) D0) (cnt0 (s.hm o) D0) → W.grownBy w0 none → LgA B W w0 T ml mh mw (n + 0) W.heap.size s o D0 [] [] (.slice none 0 0) (lf0 (s.hm o) D0) (cnt0 (s.hm o) D0) := fun w0 hrg0 hg0 => by
    have hbg : Below W.heap.size W w0 := ⟨hg0.os, hg0.tape, hg0.output, hg0.size, fun j hj => hg0.block j hj (by simp)⟩
    exact ⟨by rw [dropS_nil]; exact h.below hbg, hrg0, fun t => by rw [hhas t]; simp [Option.isSome_iff_ne_none], fun _ e => by (cases e), RowS.none _ _, fun _ => rfl, fun g e => by (cases e), by simpa using hcn, hbg.mono h.lts, ⟨⟨block_lt (p := ⟨T, 0, none⟩) h.t0, h.m0.lt, h.m1.lt, h.m2.lt, fun o m e => (h.md o m e).lt⟩, Nat.le_refl _⟩⟩
  have S01 := Lib.hid S00
  clear h hat0 hhas hwt hcn S00 hc
  go_enter Try.func37, Try.ntmps37
  go_wp2_with (first
    | (at_range; refine wpList_range_u _ rfl _ 73 rfl 72 Try.underlying73 (s.hm o) n D0 rfl hown ?_; intro w0 hrg0 hg0 hs0)
    | fail)
  go_frame
  have S0 := Lib.hid (S01.out w0 hrg0 hg0)
  clear hg0 hs0 hrg0 hown S01 l1 l2 t1 t2
  go_loopw [5, 7, 8] (fun v _ _ wr => ∃ (dn : List ByteArray) (lf : Lit → Bool) (cnt : Nat), Hid (LgA B W wr T ml mh mw (n + 0) W.heap.size s o D0 ([] : List ByteArray) dn v lf cnt)) (fun _ _ _ wr => wr.rangeLeft ((s.hm o).getD 0) W.heap.size)
  case atStart => exact ⟨[], _, _, S0⟩
  case round =>
    obtain ⟨dn, lf, cnt, st⟩ := hrel
    rename World => wr
    clear S0
    have hit := Lib.hid st.out.rg
    go_wp2_with (first
      | (at_next; refine wpList_next_u _ rfl _ rfl (s.hm o) W.heap.size (n + 0) D0 lf cnt rfl hit.out ?_ ?_)
      | fail)
    · intro hc0 hl0
      have e1 := st.out.t.t1
      obtain ⟨X, hst, hmX, hgX, hsX⟩ := st.out.t.m1.drop heldMap o hwf 0
      replace hst : ∀ ty, (Builtin.delete_ #[57, 3] ty #[.map (some mh), .int .i64 o]).run Try.prog wr = .ok (.tuple #[]) X := fun _ => hst
      obtain ⟨f1, f2, f3, f4, f5, f6⟩ := st.out.fin HC1.out hl0 hmX hgX
      have HP : Hid (GoA B T ml mh mw n s o W (.returned u5) X) := ⟨u5, ([] : List ByteArray) ++ dn, rfl, f1, fun e => st.out.f0 e, (by unfold goneT; rw [eL.out]; exact f2.mono (Nat.le_succ n)), (fun g e => by unfold goneT; rw [eL.out]; exact f3 g e), (fun k => by
        rw [List.nil_append, f4 k]
        unfold keysOf
        rw [HWT.out]
        simp), (by rw [List.nil_append]; omega), f6⟩
      clear f1 f2 f3 f4 f5 f6 hmX hgX hsX st hit hl0
      go_wp2
      go_ret
      exact HP.out
    · intro m x c w2 cnt1 hmo hlk hat hit1 hlt hg1 hs1 hl1 hl2 hen
      have hx := (st.out.lf x).1 hlk
      obtain ⟨w, hw⟩ := Option.ne_none_iff_exists'.1 hx.1
      have hcx : c = some w := by
        have h1 := hat (.lit (.int .i64 0))
        rw [HAT.out m hmo x, hw] at h1
        have h4 : encF (some w) = encF c := by injection h1 with h1; injection h1
        exact (encF_inj h4).symm
      subst hcx
      obtain ⟨hwq, how⟩ := HC1.out.ok.h1 o x w hw
      have hxs := (HC1.out.ok.ck 0 x w (by decide) hwq).2.1
      obtain ⟨q1, q2, he⟩ := List.append_of_mem hwq
      have hq0 : (dropS s o dn).q 0 x = q1 ++ w :: q2 := ((dropS_q dn).1 hx.2 0).trans he
      obtain ⟨K, hK⟩ := st.out.t.lk_some (i := 0) (k := x) (x := w) (by rw [hq0]; simp)
      obtain ⟨ht2, hr2, hb2⟩ := st.out.turn HBW.out hg1
      have KD := Lib.hid (drop_any (q1 := q1) (q2 := q2) (w := w) (hq0 ▸ ht2.qa x K hK 0 (by decide) : QAt w2 K (2 * 0) (q1 ++ w :: q2)))
      have HT2 := Lib.hid ht2
      have HR2 := Lib.hid hr2
      have HB2 := Lib.hid hb2
      have HIT := Lib.hid hit1
      have HK := Lib.hid hK
      have HE := Lib.hid he
      have HW := Lib.hid hw
      have HLK := Lib.hid hlk
      have u0 := ht2.t0
      have l3 := ht2.m0.look lockMap x (show x.size ≤ maxLen by unfold maxLen; omega)
      rw [hK] at l3
      replace l3 : (Instr.lookup 56 (.map (some ml)) (.string x) false).run Try.prog w2 = .ok (.pointer (some ⟨K, 0, none⟩)) w2 := l3
      replace hen : (Instr.entry (.pointer (some ⟨W.heap.size, 0, none⟩))).run Try.prog w2 = .ok (.tuple #[.string x, .pointer (some ⟨w, 0, none⟩)]) w2 := hen
      have hsz : (([] : List ByteArray) ++ dn).length ≤ 1000000 := by
        have h1 := st.out.cn
        have h2 : (([] : List ByteArray)).length ≤ 1 := by simp
        rw [List.length_append]
        omega
      have HSZ := Lib.hid hsz
      have HLT : Hid (cnt1 < cnt) := hlt
      have HM := Lib.hid hmo
      have HL1 := Lib.hid hl1
      have HL2 := Lib.hid hl2
      have HBR : W.heap.size ≤ w2.heap.size := by
        have h1 := hit1.lt
        have h2 := st.out.hR.2
        omega
      clear hx hwq how hxs he hq0 hK ht2 hr2 hb2 hit1 hit hg1 hs1 hlk hat hlt hmo hw hl1 hl2 hsz
      go_wp2_with fail
      refine KD.out.mono ?_
      rintro e w3 ⟨rfl, hq, hc⟩
      have HQ := Lib.hid hq
      have HC := Lib.hid hc
      have hr3 : RowS w3 W.heap.size u5 (([] : List ByteArray) ++ dn) := by
        have own2 := own0 HR2.out (by decide) (fun e => st.out.f0 (List.length_eq_zero_iff.1 e))
        have hx := (st.out.lf x).1 HLK.out
        have hq0 : (dropS s o dn).q 0 x = q1 ++ w :: q2 := ((dropS_q dn).1 hx.2 0).trans HE.out
        refine ownsRow_of HR2.out (fun g e2 => ?_)
        obtain ⟨⟨u, hu⟩, _⟩ := own2 g e2
        refine hc.block g (block_lt (p := ⟨g, 0, none⟩) hu) (fun j q => ?_)
        rcases q with ⟨q, _⟩ | ⟨q, _⟩
        · exact (st.out.fn g e2).k x K HK.out q
        · refine (st.out.fn g e2).x 0 x g (by decide) ?_ rfl
          rw [hq0]
          rcases List.mem_append.1 q with q | q
          · exact List.mem_append_left _ q
          · exact List.mem_append_right _ (List.mem_cons_of_mem _ q)
      have HR3 := Lib.hid hr3
      have hcl : (w3.alloc (.cells #[.string x] 9)).cell? ((⟨w3.heap.size, 0, none⟩ : Addr).add 0) = some (.string x) := new_cell rfl rfl
      have hs3 : W.heap.size ≤ w3.heap.size := Nat.le_trans HBR hc.size
      clear hq hc hr3 KD
      go_wp2_with (at_builtin; refine append_str rfl _ _ rfl W.heap.size u5 (([] : List ByteArray) ++ dn) x rfl HR3.out rfl HSZ.out hs3 ?_)
      intro v5 w5 hr5 hg5 ho5
      obtain ⟨ST0, IT0⟩ := st.out.next HC1.out HLK.out HW.out HE.out HK.out HBW.out HIT.out HLT.out HT2.out HR2.out HB2.out HQ.out HC.out hr5 hg5 ho5
      have ST := Lib.hid ST0
      have IT := Lib.hid IT0
      clear hr5 hg5 ho5 ST0 IT0 hcl hs3 HR3 HQ HC HT2 HR2 HB2 HIT
      go_wp2
      go_roundw
      case rel => exact ⟨dn ++ [x], _, cnt1, ST⟩
      case measure =>
        have i1 := IT.out
        have i2 := HL1.out
        have i3 := HLT.out
        rw [HM.out] at i1 ⊢
        have i4 : w5.rangeLeft m W.heap.size = cnt1 := i1.left
        show w5.rangeLeft m W.heap.size < wr.rangeLeft m W.heap.size
        omega
set_option maxRecDepth 100000 in
set_option maxHeartbeats 4000000 in
theorem letGo_w (h : LkAt B W T ml mh mw n s) (hc : LkC s) (hwf : (Lit.int .i64 o).wf = true) {w1 : Nat} (hwt : s.wt o = some w1) (hn : n ≤ 900000) :
    Calls Try.prog 37 #[.pointer (some ⟨T, 0, none⟩), .int .i64 o] W (GoA B T ml mh mw n s o W) := by
  obtain ⟨ho, i, hi, hq⟩ := hc.ok.w1 o w1 hwt
  obtain ⟨q1, q2, he⟩ := List.append_of_mem hq
  obtain ⟨K1, hK1⟩ := h.lk_some hq
  have eL := Lib.hid (leftT_some hc hi he ho)
  have hks := (hc.ok.ck i _ w1 (lt3 hi) hq).2.1
  have t2 := h.t2
  have l2 := h.m2.look waitsMap o hwf
  rw [hwt] at l2
  replace l2 : (Instr.lookup 58 (.map (some mw)) (.int .i64 o) false).run Try.prog W = .ok (.pointer (some ⟨w1, 0, none⟩)) W := l2
  have hcase : (i = 1 ∧ s.hd (s.con w1).ow (s.con w1).k ≠ none) ∨ (i = 2 ∧ s.hd (s.con w1).ow (s.con w1).k = none) := by
    rcases hi with rfl | rfl
    · exact .inl ⟨rfl, hc.ok.r1 _ _ hq⟩
    · exact .inr ⟨rfl, hc.ok.r2 _ _ hq⟩
  have KL := leave_g h hcase hK1 he rfl (show (s.con w1).k.size ≤ maxLen by unfold maxLen; omega) (by rw [ho]; exact hwf)
  rw [ho, ← eL.out] at KL
  have KL := Lib.hid KL
  have HC1 := Lib.hid (hc.leftT (o := o)).1
  have HWT := Lib.hid hwt
  have HBW := Lib.hid h.lts
  have HBT := Lib.hid h.bt
  have hK : ∃ k1, (s.con w1).k = k1 := ⟨_, rfl⟩
  obtain ⟨k1, hk1⟩ := hK
  have HK1 := Lib.hid hk1
  clear h hwt hc hcase hi hq he hK1 hks ho
  go_enter Try.func37, Try.ntmps37
  go_wp2_with fail
  refine KL.out.mono ?_
  rintro e wa ⟨rfl, ha, fa, _, ba⟩
  have ca := fa.c.c0
  rw [hk1] at ca
  have HA := Lib.hid ha
  have BA := Lib.hid ba
  have hsa : W.heap.size ≤ wa.heap.size := ba.size
  have hcl : (wa.alloc (.cells #[.string k1] 9)).cell? ((⟨wa.heap.size, 0, none⟩ : Addr).add 0) = some (.string k1) := new_cell rfl rfl
  clear ha fa ba KL l2 t2
  go_wp2_with (at_builtin; refine append_str rfl _ _ rfl W.heap.size (.slice none 0 0) [] k1 rfl (RowS.none _ _) rfl (by simp) hsa ?_)
  intro vb wb hrb hgb hob
  have bal : Below wa.heap.size wa (wa.alloc (.cells #[.string k1] 9)) := (Below.refl _ _).alloc (Nat.le_refl _) _
  have h4 := HA.out.below bal
  obtain ⟨h, b5, n5⟩ := h4.appended (v := .slice none 0 0) (v' := vb) (fun g e => by (cases e)) hgb (by rw [World.size_alloc]; exact hob)
  have bb := (BA.out.trans (bal.mono HA.out.lts)).trans b5
  have t1 := h.t1
  have l1 := h.m1.look heldMap o hwf
  replace l1 : (Instr.lookup 57 (.map (some mh)) (.int .i64 o) false).run Try.prog wb = .ok (mV ((leftT s o).hm o)) wb := l1
  obtain ⟨D0, hown, hat0, hhas, hcn⟩ := h.iter0 o
  have HAT := Lib.hid hat0
  have S00 : ∀ w0, It w0 ((leftT s o).hm o) wb.heap.size (n + 1) D0 (lf0 ((leftT s o).hm o) D0) (cnt0 ((leftT s o).hm o) D0) → wb.grownBy w0 none → LgA B W w0 T ml mh mw (n + 1) wb.heap.size (leftT s o) o D0 [k1] [] vb (lf0 ((leftT s o).hm o) D0) (cnt0 ((leftT s o).hm o) D0) := fun w0 hrg0 hg0 => by
    have hbg : Below wb.heap.size wb w0 := ⟨hg0.os, hg0.tape, hg0.output, hg0.size, fun j hj => hg0.block j hj (by simp)⟩
    exact ⟨by rw [dropS_nil]; exact h.below hbg, hrg0, fun t => by rw [hhas t]; simp [Option.isSome_iff_ne_none], fun _ e => by (cases e), by rw [List.append_nil]; exact hrb.below hbg, fun e => by (cases e), fun g e => by rw [dropS_nil]; exact n5 g e, by simpa using hcn, bb.trans (hbg.mono h.lts), ⟨⟨block_lt (p := ⟨T, 0, none⟩) h.t0, h.m0.lt, h.m1.lt, h.m2.lt, fun o m e => (h.md o m e).lt⟩, bb.size⟩⟩
  have S01 := Lib.hid S00
  have hvb : ∃ gb cb, vb = .slice (some ⟨gb, 0, none⟩) 1 cb := by
    obtain ⟨g, c, e, _, _⟩ := hrb.cells (by simp)
    exact ⟨g, c, e⟩
  clear h4 bal HA BA hsa hcl h hat0 hhas hcn S00 hrb hgb hob b5 n5 bb
  go_wp2_with (first
    | (at_range; refine wpList_range_u _ rfl _ 73 rfl 72 Try.underlying73 ((leftT s o).hm o) (n + 1) D0 rfl hown ?_; intro w0 hrg0 hg0 hs0)
    | fail)
  go_frame
  have S0 := Lib.hid (S01.out w0 hrg0 hg0)
  clear hg0 hs0 hrg0 hown S01 l1 t1 hvb
  go_loopw [5, 7, 8] (fun v _ _ wr => ∃ (dn : List ByteArray) (lf : Lit → Bool) (cnt : Nat), Hid (LgA B W wr T ml mh mw (n + 1) wb.heap.size (leftT s o) o D0 [k1] dn v lf cnt)) (fun _ _ _ wr => wr.rangeLeft (((leftT s o).hm o).getD 0) wb.heap.size)
  case atStart => exact ⟨[], _, _, S0⟩
  case round =>
    obtain ⟨dn, lf, cnt, st⟩ := hrel
    rename World => wr
    clear S0
    have hit := Lib.hid st.out.rg
    go_wp2_with (first
      | (at_next; refine wpList_next_u _ rfl _ rfl ((leftT s o).hm o) wb.heap.size (n + 1) D0 lf cnt rfl hit.out ?_ ?_)
      | fail)
    · intro hc0 hl0
      have e1 := st.out.t.t1
      obtain ⟨X, hst, hmX, hgX, hsX⟩ := st.out.t.m1.drop heldMap o hwf 0
      replace hst : ∀ ty, (Builtin.delete_ #[57, 3] ty #[.map (some mh), .int .i64 o]).run Try.prog wr = .ok (.tuple #[]) X := fun _ => hst
      obtain ⟨f1, f2, f3, f4, f5, f6⟩ := st.out.fin HC1.out hl0 hmX hgX
      have HP : Hid (GoA B T ml mh mw n s o W (.returned u5) X) := ⟨u5, [k1] ++ dn, rfl, f1, fun e => st.out.f0 e, f2, (fun g e => f3 g e), (fun k => by
        rw [List.singleton_append, List.mem_cons, f4 k]
        unfold keysOf
        rw [HWT.out]
        constructor
        · rintro (c | c)
          · exact .inl ⟨w1, rfl, by rw [c]; exact HK1.out⟩
          · exact .inr c
        · rintro (⟨w, c, d⟩ | c)
          · injection c with c
            subst c
            exact .inl (by rw [← d]; exact HK1.out)
          · exact .inr c), (by rw [List.singleton_append, List.length_cons]; omega), f6⟩
      clear f1 f2 f3 f4 f5 f6 hmX hgX hsX st hit hl0
      go_wp2
      go_ret
      exact HP.out
    · intro m x c w2 cnt1 hmo hlk hat hit1 hlt hg1 hs1 hl1 hl2 hen
      have hx := (st.out.lf x).1 hlk
      obtain ⟨w, hw⟩ := Option.ne_none_iff_exists'.1 hx.1
      have hcx : c = some w := by
        have h1 := hat (.lit (.int .i64 0))
        rw [HAT.out m hmo x, hw] at h1
        have h4 : encF (some w) = encF c := by injection h1 with h1; injection h1
        exact (encF_inj h4).symm
      subst hcx
      obtain ⟨hwq, how⟩ := HC1.out.ok.h1 o x w hw
      have hxs := (HC1.out.ok.ck 0 x w (by decide) hwq).2.1
      obtain ⟨q1, q2, he⟩ := List.append_of_mem hwq
      have hq0 : (dropS (leftT s o) o dn).q 0 x = q1 ++ w :: q2 := ((dropS_q dn).1 hx.2 0).trans he
      obtain ⟨K, hK⟩ := st.out.t.lk_some (i := 0) (k := x) (x := w) (by rw [hq0]; simp)
      obtain ⟨ht2, hr2, hb2⟩ := st.out.turn HBW.out hg1
      have KD := Lib.hid (drop_any (q1 := q1) (q2 := q2) (w := w) (hq0 ▸ ht2.qa x K hK 0 (by decide) : QAt w2 K (2 * 0) (q1 ++ w :: q2)))
      have HT2 := Lib.hid ht2
      have HR2 := Lib.hid hr2
      have HB2 := Lib.hid hb2
      have HIT := Lib.hid hit1
      have HK := Lib.hid hK
      have HE := Lib.hid he
      have HW := Lib.hid hw
      have HLK := Lib.hid hlk
      have u0 := ht2.t0
      have l3 := ht2.m0.look lockMap x (show x.size ≤ maxLen by unfold maxLen; omega)
      rw [hK] at l3
      replace l3 : (Instr.lookup 56 (.map (some ml)) (.string x) false).run Try.prog w2 = .ok (.pointer (some ⟨K, 0, none⟩)) w2 := l3
      replace hen : (Instr.entry (.pointer (some ⟨wb.heap.size, 0, none⟩))).run Try.prog w2 = .ok (.tuple #[.string x, .pointer (some ⟨w, 0, none⟩)]) w2 := hen
      have hsz : ([k1] ++ dn).length ≤ 1000000 := by
        have h1 := st.out.cn
        have h2 : ([k1]).length ≤ 1 := by simp
        rw [List.length_append]
        omega
      have HSZ := Lib.hid hsz
      have HLT : Hid (cnt1 < cnt) := hlt
      have HM := Lib.hid hmo
      have HL1 := Lib.hid hl1
      have HL2 := Lib.hid hl2
      have HBR : W.heap.size ≤ w2.heap.size := by
        have h1 := hit1.lt
        have h2 := st.out.hR.2
        omega
      clear hx hwq how hxs he hq0 hK ht2 hr2 hb2 hit1 hit hg1 hs1 hlk hat hlt hmo hw hl1 hl2 hsz
      go_wp2_with fail
      refine KD.out.mono ?_
      rintro e w3 ⟨rfl, hq, hc⟩
      have HQ := Lib.hid hq
      have HC := Lib.hid hc
      have hr3 : RowS w3 W.heap.size u5 ([k1] ++ dn) := by
        have own2 := own0 HR2.out (by decide) (fun e => st.out.f0 (List.length_eq_zero_iff.1 e))
        have hx := (st.out.lf x).1 HLK.out
        have hq0 : (dropS (leftT s o) o dn).q 0 x = q1 ++ w :: q2 := ((dropS_q dn).1 hx.2 0).trans HE.out
        refine ownsRow_of HR2.out (fun g e2 => ?_)
        obtain ⟨⟨u, hu⟩, _⟩ := own2 g e2
        refine hc.block g (block_lt (p := ⟨g, 0, none⟩) hu) (fun j q => ?_)
        rcases q with ⟨q, _⟩ | ⟨q, _⟩
        · exact (st.out.fn g e2).k x K HK.out q
        · refine (st.out.fn g e2).x 0 x g (by decide) ?_ rfl
          rw [hq0]
          rcases List.mem_append.1 q with q | q
          · exact List.mem_append_left _ q
          · exact List.mem_append_right _ (List.mem_cons_of_mem _ q)
      have HR3 := Lib.hid hr3
      have hcl : (w3.alloc (.cells #[.string x] 9)).cell? ((⟨w3.heap.size, 0, none⟩ : Addr).add 0) = some (.string x) := new_cell rfl rfl
      have hs3 : W.heap.size ≤ w3.heap.size := Nat.le_trans HBR hc.size
      clear hq hc hr3 KD
      go_wp2_with (at_builtin; refine append_str rfl _ _ rfl W.heap.size u5 ([k1] ++ dn) x rfl HR3.out rfl HSZ.out hs3 ?_)
      intro v5 w5 hr5 hg5 ho5
      obtain ⟨ST0, IT0⟩ := st.out.next HC1.out HLK.out HW.out HE.out HK.out HBW.out HIT.out HLT.out HT2.out HR2.out HB2.out HQ.out HC.out hr5 hg5 ho5
      have ST := Lib.hid ST0
      have IT := Lib.hid IT0
      clear hr5 hg5 ho5 ST0 IT0 hcl hs3 HR3 HQ HC HT2 HR2 HB2 HIT
      go_wp2
      go_roundw
      case rel => exact ⟨dn ++ [x], _, cnt1, ST⟩
      case measure =>
        have i1 := IT.out
        have i2 := HL1.out
        have i3 := HLT.out
        rw [HM.out] at i1 ⊢
        have i4 : w5.rangeLeft m wb.heap.size = cnt1 := i1.left
        show w5.rangeLeft m wb.heap.size < wr.rangeLeft m wb.heap.size
        omega
theorem letGo_any (h : LkAt B W T ml mh mw n s) (hc : LkC s) (hwf : (Lit.int .i64 o).wf = true) (hn : n ≤ 900000) :
    Calls Try.prog 37 #[.pointer (some ⟨T, 0, none⟩), .int .i64 o] W (GoA B T ml mh mw n s o W) := by
  cases e : s.wt o with
  | none => exact letGo_n h hc hwf e hn
  | some w => exact letGo_w h hc hwf e hn
end
end Go.Proofs.Ytjojempjmpaaaaa
