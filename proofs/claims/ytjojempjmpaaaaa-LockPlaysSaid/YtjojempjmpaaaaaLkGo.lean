/-
  A TABLE OF LOCKS: letGo, of one that holds one key and waits for none.
-/
import Derived.Test.YtjojempjmpaaaaaLkLeave
import Derived.Maps.AppendAt
import Derived.Maps.RangeWalk
namespace Go.Proofs.Ytjojempjmpaaaaa
open Go.RowKit Go.Maps Go.ChangeMaps Go.MapKept Go.WideElems Go.WideMaps
/-- A row of texts of the call's own. -/
def RowS (W : World) (B : Nat) (v : Value) (ts : List ByteArray) : Prop := W.ownsRow B 9 1 v ts.length (ts.map Value.string)
theorem RowS.below {W W' : World} {B : Nat} {v : Value} {ts : List ByteArray} (h : RowS W B v ts) (hb : Below W.heap.size W W') : RowS W' B v ts :=
  World.ownsRow.kept h (row := none) ⟨hb.os, hb.tape, hb.output, hb.size, fun k hk _ => hb.block k hk⟩ (by cases v.ownBlock with
    | none => exact .inl rfl
    | some k => exact .inr (fun e => by cases e))
theorem RowS.none (W : World) (B : Nat) : RowS W B (.slice none 0 0) [] := World.ownsRow_nil _ _ _ _
theorem infoS : (Try.prog.info? 9).map (fun i => (i.zero, i.size, i.bytes)) = some (some (.string ⟨#[]⟩), 1, 16) := by kernel_rfl
theorem append_str {W0 : World} {ops : Array Oper} {rest : List Oper} {o : Oper} {a : Act} {Q : Exit → Act → World → Prop} (hgd : o.guard = none) (s x : Operand)
    (ho : o.op = .call { callee := .builtin .append, args := #[s, x], argTypes := #[85, 85] })
    (B : Nat) (v : Value) (ts : List ByteArray) (t : ByteArray) (hs : a.eval s = v) (hown : RowS W0 B v ts) (hx : a.eval x = .slice (some ⟨W0.heap.size, 0, none⟩) 1 1) (h10 : ts.length ≤ 1000000) (hB : B ≤ W0.heap.size)
    (h : ∀ v' w', RowS w' B v' (ts ++ [t]) → (W0.alloc (.cells #[.string t] 9)).grownBy w' v.ownBlock → (v'.ownBlock = v.ownBlock ∨ v'.ownBlock = some (W0.heap.size + 1)) → wpList Try.prog ops Q rest (a.put o.dst v') w') :
    wpList Try.prog ops Q (o :: rest) a (W0.alloc (.cells #[.string t] 9)) := by
  obtain ⟨i0, hi, hzz⟩ := Option.map_eq_some_iff.1 infoS
  simp only [Prod.mk.injEq] at hzz
  obtain ⟨hz0, hz1, hz2⟩ := hzz
  refine wpList_append_own_at _ hgd s x 85 ho B 9 i0 (.string ⟨#[]⟩) 1 16 Try.underlying85 hi hz0 hz1 hz2 rfl (by decide) v ts.length (ts.map Value.string) hs (World.ownsRow.alloc hown _) ⟨W0.heap.size, 0, Option.none⟩ 1 1 [.string t] hx rfl ?_ ?_ (by unfold maxLen; omega) (by omega) (by rw [World.size_alloc]; omega) (fun v' w' h1 h2 _ h4 => h v' w' ?_ h2 (by rw [World.size_alloc] at h4; exact h4))
  · intro j u' hj
    match j, hj with
    | 0, hj => simp at hj; subst hj; exact new_cell rfl rfl
  · intro u' hu; simp at hu; subst hu; rfl
  · unfold RowS
    rw [List.length_append, List.map_append]; exact h1
theorem RowS.cells {W : World} {B : Nat} {v : Value} {ts : List ByteArray} (h : RowS W B v ts) (h0 : 0 < ts.length) : ∃ g cap, v = .slice (some ⟨g, 0, Option.none⟩) ts.length cap ∧ B ≤ g ∧ ∀ j, j < ts.length → W.cell? ⟨g, j, Option.none⟩ = some (.string (ts.getD j ByteArray.empty)) := by
  rcases h.2 with ⟨hv, hn⟩ | ⟨g, cp, cur, hv, hb, _⟩
  · omega
  · subst hv
    refine ⟨g, cp, rfl, hb, fun j hj => ?_⟩
    rw [World.ownsRow.cellAt h j (by omega), List.getElem?_map, List.getD_eq_getElem?_getD, List.getElem?_eq_getElem hj]; rfl
theorem ranges_blocks {w w' : World} {P : Program} {k : TypeId} {R : Value → Option (DataW Unit × List MemPlace)} {b r n : Nat} {D : DataW Unit} {left : Lit → Bool} {cnt : Nat} (h : w.ranges P k R b r n D left cnt) (hb : w'.heap[b]? = w.heap[b]?) (hr : w'.heap[r]? = w.heap[r]?) : w'.ranges P k R b r n D left cnt := by
  obtain ⟨es, clock, since, seen, c0, h1, h2, h3, h4, h5, h6⟩ := h
  exact ⟨es, clock, since, seen, c0, hb.trans h1, h2, h3, h4, hr.trans h5, h6⟩
theorem append_s {w : World} {ops : Array Oper} {rest : List Oper} {o : Oper} {a : Act} {Q : Exit → Act → World → Prop} (hgd : o.guard = none) (s x : Operand)
    (ho : o.op = .call { callee := .builtin .append, args := #[s, x], argTypes := #[85, 85] })
    (B : Nat) (v : Value) (ts : List ByteArray) (ad : Addr) (t : ByteArray) (c : Nat) (hs : a.eval s = v) (hown : RowS w B v ts) (hx : a.eval x = .slice (some ad) 1 c) (hc : w.cell? (ad.add 0) = some (.string t)) (h10 : ts.length ≤ 1000000) (hB : B ≤ w.heap.size)
    (h : ∀ v' w', RowS w' B v' (ts ++ [t]) → w.grownBy w' v.ownBlock → (v'.ownBlock = v.ownBlock ∨ v'.ownBlock = some w.heap.size) → wpList Try.prog ops Q rest (a.put o.dst v') w') :
    wpList Try.prog ops Q (o :: rest) a w := by
  obtain ⟨i0, hi, hzz⟩ := Option.map_eq_some_iff.1 infoS
  simp only [Prod.mk.injEq] at hzz
  obtain ⟨hz0, hz1, hz2⟩ := hzz
  refine wpList_append_own_at _ hgd s x 85 ho B 9 i0 (.string ⟨#[]⟩) 1 16 Try.underlying85 hi hz0 hz1 hz2 rfl (by decide) v ts.length (ts.map Value.string) hs hown ad 1 c [.string t] hx rfl ?_ ?_ (by unfold maxLen; omega) (by omega) hB (fun v' w' h1 h2 _ h4 => h v' w' ?_ h2 h4)
  · intro j u' hj
    match j, hj with
    | 0, hj => simp at hj; subst hj; exact hc
  · intro u' hu; simp at hu; subst hu; rfl
  · unfold RowS
    rw [List.length_append, List.map_append]; exact h1
theorem row_mono {W : World} {B B' : Nat} {v : Value} {ts : List ByteArray} (h : RowS W B v ts) (hb : B' ≤ B) : RowS W B' v ts := ⟨h.1, h.2.imp id fun ⟨g, cap, cur, h1, h2, h3⟩ => ⟨g, cap, cur, h1, Nat.le_trans hb h2, h3⟩⟩
theorem key_str {v : Value} {kl : Lit} (h : keyOf Try.prog 9 v = some kl) : ∃ s : ByteArray, v = .string s ∧ kl = .string s.data.toList := by
  rw [keyOf_string Try.underlying9] at h
  unfold mapKey at h
  rw [Try.underlying9] at h
  cases v <;> simp at h
  rename_i s
  exact ⟨s, rfl, h.2.symm⟩
/-- Nothing is held by an owner any more. -/
noncomputable def clrH (f : Int → ByteArray → Option Nat) (o : Int) : Int → ByteArray → Option Nat := fun o' => if o' = o then fun _ => none else f o'
section
variable {B : Nat} {W X : World} {T ml mh mw n : Nat} {s : Lk}
theorem LkAt.delHeld (h : LkAt B W T ml mh mw n s) {o : Int} (hm : MAt iKy mV X mh n (updM s.hm o none)) (hg : W.grownBy X (some mh)) :
    LkAt B X T ml mh mw n { s with hm := updM s.hm o none, hd := clrH s.hd o } := by
  obtain ⟨k0, k1, k2, k3, k4, k5⟩ := h.kq h.m1.no_cell hg
  have hb : ∀ b, b < W.heap.size → b ≠ mh → X.heap[b]? = W.heap[b]? := fun b hb hn => hg.block b hb (fun e => hn (by injection e))
  have key : ∀ o' m', updM s.hm o none o' = some m' → o' ≠ o ∧ s.hm o' = some m' := fun o' m' e => by
    rcases updM_cases e with ⟨_, c⟩ | ⟨c, d⟩
    · cases c
    · exact ⟨c, d⟩
  exact { h with
    t0 := k0
    t1 := k1
    t2 := k2
    m0 := h.m0.of_block (hb ml h.m0.lt h.mn.1)
    m1 := hm
    m2 := h.m2.of_block (hb mw h.m2.lt h.mn.2.2.symm)
    md := fun o' m' e => by
      obtain ⟨e1, e2⟩ := key o' m' e
      show MAt sKy pV X m' n (clrH s.hd o o')
      unfold clrH
      rw [if_neg e1]
      exact (h.md o' m' e2).of_block (hb m' (h.md o' m' e2).lt (h.hne o' m' e2).2.1)
    qa := k3
    wc := k4
    ps := k5
    hn := fun o' e k => by
      show clrH s.hd o o' k = none
      unfold clrH
      by_cases e1 : o' = o
      · rw [if_pos e1]
      · rw [if_neg e1]
        have e : updM s.hm o none o' = none := e
        rw [updM_other _ _ e1] at e
        exact h.hn o' e k
    hi := fun o1 o2 m' e e' => h.hi o1 o2 m' (key o1 m' e).2 (key o2 m' e').2
    hne := fun o' m' e => h.hne o' m' (key o' m' e).2
    bm := fun o' m' e => h.bm o' m' (key o' m' e).2 }
/-- The walk over what one holds: it holds one key. -/
structure LgW (B : Nat) (W wr : World) (T ml mh mw n m R : Nat) (s : Lk) (k : ByteArray) (q1 q2 : List Nat) (D0 : DataW Unit) (dn : Bool) (v : Value) (lf : Lit → Bool) (cnt : Nat) : Prop where
  t : LkAt B wr T ml mh mw n (if dn then { s with q := updQ s.q 0 k (q1 ++ q2) } else s)
  rg : wr.ranges Try.prog 9 (rdB pV (H := Unit)) m R n D0 lf cnt
  nf : dn = false → lf = has D0 ∧ v = .slice none 0 0
  df : dn = true → ∀ t : ByteArray, lf (.string t.data.toList) = false
  row : RowS wr (R + 1) v (if dn then [k] else [])
  bw : Below B W wr
  hR : (T < R ∧ ml < R ∧ mh < R ∧ mw < R ∧ ∀ o m, s.hm o = some m → m < R) ∧ R < wr.heap.size ∧ B ≤ R
theorem LkAt.turn (h : LkAt B W T ml mh mw n s) {R : Nat} (hR : ∀ i, W.cell? ⟨R, i, none⟩ = none) (hne : ml < R ∧ mh < R ∧ mw < R ∧ ∀ o m, s.hm o = some m → m < R) (hg : W.grownBy X (some R)) : LkAt B X T ml mh mw n s := by
  have ne : ∀ {b i : Nat} {v : Value}, W.cell? ⟨b, i, none⟩ = some v → b ≠ R := fun hb e => by
    rw [e, hR] at hb; cases hb
  refine h.keep (Cf.grown hg) (fun _ => ne h.t0) (fun m hm _ => ?_) (fun k K e _ => ne (h.qa k K e 0 (by decide)).f) (fun i k x hi hx _ => ne (h.wc i k x hi hx).c0) (fun b c e _ => by
    obtain ⟨_, v, hv⟩ := h.ps.pc b c e
    exact ne hv)
  rcases hm with rfl | rfl | rfl | ⟨o, e⟩
  · omega
  · omega
  · omega
  · have := hne.2.2.2 o m e
    omega
theorem iter_cell {w : World} {P : Program} {k : TypeId} {R : Value → Option (DataW Unit × List MemPlace)} {b r n : Nat} {D : DataW Unit} {left : Lit → Bool} {cnt : Nat} (h : w.ranges P k R b r n D left cnt) : ∀ i, w.cell? ⟨r, i, none⟩ = none := fun i => by
  obtain ⟨es, clock, since, seen, c0, h1, h2, h3, h4, h5, h6⟩ := h
  simp [World.cell?, h5]
/-- What letGo leaves. -/
noncomputable def goneS (s : Lk) (k : ByteArray) (q : List Nat) (o : Int) : Lk := { s with q := updQ s.q 0 k q, hm := updM s.hm o none, hd := clrH s.hd o }
def GoP (B : Nat) (T ml mh mw n : Nat) (s : Lk) (k : ByteArray) (q : List Nat) (o : Int) (W : World) (e : Ending) (W' : World) : Prop :=
  ∃ g c, e = .returned (.slice (some ⟨g, 0, none⟩) 1 c) ∧ RowS W' W.heap.size (.slice (some ⟨g, 0, none⟩) 1 c) [k] ∧ LkAt B W' T ml mh mw n (goneS s k q o) ∧ Below B W W'
set_option maxRecDepth 100000 in
set_option maxHeartbeats 4000000 in
theorem letGo_one (h : LkAt B W T ml mh mw n s) {o : Int} {k : ByteArray} {w m K : Nat} {q1 q2 : List Nat} (hwf : (Lit.int .i64 o).wf = true) (hm : s.hm o = some m) (hd1 : s.hd o k = some w) (hd2 : ∀ k', k' ≠ k → s.hd o k' = none) (hwt : s.wt o = none) (hk : s.lk k = some K) (he : s.q 0 k = q1 ++ w :: q2) (hks : k.size ≤ 1000) :
    Calls Try.prog 37 #[.pointer (some ⟨T, 0, none⟩), .int .i64 o] W (GoP B T ml mh mw n s k (q1 ++ q2) o W) := by
  have t1 := h.t1
  have t2 := h.t2
  have l2 := h.m2.look waitsMap o hwf
  rw [hwt] at l2
  have l2 : (Instr.lookup 58 (.map (some mw)) (.int .i64 o) false).run Try.prog W = .ok (.pointer none) W := l2
  have l1 := h.m1.look heldMap o hwf
  rw [hm] at l1
  have l1 : (Instr.lookup 57 (.map (some mh)) (.int .i64 o) false).run Try.prog W = .ok (.map (some m)) W := l1
  obtain ⟨D0, hown, hat0, hhas⟩ := h.md o m hm
  have HAT := Lib.hid hat0
  have HAS := Lib.hid hhas
  have H0 := Lib.hid h
  have HM := Lib.hid hm
  have HD1 := Lib.hid hd1
  have HD2 := Lib.hid hd2
  have HK := Lib.hid hk
  have HE := Lib.hid he
  have lts : T < W.heap.size ∧ ml < W.heap.size ∧ mh < W.heap.size ∧ mw < W.heap.size ∧ ∀ o m, s.hm o = some m → m < W.heap.size := ⟨block_lt (p := ⟨T, 0, none⟩) h.t0, h.m0.lt, h.m1.lt, h.m2.lt, fun o m e => (h.md o m e).lt⟩
  have HLT := Lib.hid lts
  have hB := h.lts
  clear h hat0 hhas hm hd1 hd2 hwt hk he lts
  go_enter Try.func37, Try.ntmps37
  go_wp2_with (first
    | (at_range; refine wpList_range_own _ rfl _ 73 rfl 9 72 (string_keyed Try.underlying9) Try.underlying73 (rdB pV (H := Unit)) m n D0 rfl hown ?_; intro w0 hrg0 hg0 hs0)
    | fail)
  go_frame
  have hbg : Below W.heap.size W w0 := ⟨hg0.os, hg0.tape, hg0.output, hg0.size, fun j hj => hg0.block j hj (by simp)⟩
  have S0 : Hid (LgW B W w0 T ml mh mw n m W.heap.size s k q1 q2 D0 false (.slice none 0 0) (has D0) (size D0)) :=
    ⟨H0.out.below hbg, hrg0, fun _ => ⟨rfl, rfl⟩, fun e => by (cases e), RowS.none _ _, hbg.mono hB, HLT.out, by omega, hB⟩
  clear hbg hg0 hs0 hrg0 hown
  generalize hR : W.heap.size = R at *
  go_loopw [5, 7, 8] (fun v _ _ wr => ∃ (dn : Bool) (lf : Lit → Bool) (cnt : Nat), Hid (LgW B W wr T ml mh mw n m R s k q1 q2 D0 dn v lf cnt)) (fun _ _ _ wr => wr.rangeLeft m R)
  case atStart => exact ⟨false, _, _, S0⟩
  case round =>
    obtain ⟨dn, lf, cnt, st⟩ := hrel
    rename World => wr
    clear S0 l1 l2 t1 t2
    have hrg := Lib.hid st.out.rg
    have hle := st.out.rg.left_eq
    go_wp2_with (first
      | (at_next; refine wpList_next_ranges _ rfl _ rfl 9 (string_keyed Try.underlying9) (rdB pV (H := Unit)) Value.string pV (fun key kl hkey => by obtain ⟨x, rfl, _⟩ := key_str hkey; exact ⟨x, rfl⟩) (fun v y hv => by obtain ⟨c, rfl, _⟩ := rdB_inv hv; exact ⟨c, rfl⟩) m R n D0 lf cnt rfl hrg.out ?_ ?_)
      | fail)
    · intro hc0 hl0
      cases dn with
      | false =>
        exfalso
        have h1 := (st.out.nf rfl).1
        have h2 := hl0 (.string k.data.toList)
        rw [h1] at h2
        have h3 := HAS.out k
        rw [HD1.out] at h3
        have h4 : has D0 (.string k.data.toList) = true := h3
        rw [h4] at h2
        cases h2
      | true =>
        have ht := st.out.t
        have hrow := st.out.row
        rw [if_pos rfl] at ht hrow
        have e1 := ht.t1
        obtain ⟨X, hst, hmX, hgX, hsX⟩ := ht.m1.drop heldMap o hwf 0
        have hst : ∀ ty, (Builtin.delete_ #[57, 3] ty #[.map (some mh), .int .i64 o]).run Try.prog wr = .ok (.tuple #[]) X := fun _ => hst
        have H2 := Lib.hid (ht.delHeld hmX hgX)
        have hrow2 : RowS X (R + 1) u5 [k] := World.ownsRow.kept hrow hgX (by
          cases ho : u5.ownBlock with
          | none => exact .inl rfl
          | some g => exact .inr (fun e => by
              injection e with e
              have h1 := (World.ownsRow.lt hrow g ho).1
              have h2 := st.out.hR.1.2.2.1
              omega))
        obtain ⟨g, c, rfl, _, _⟩ := hrow2.cells (by simp)
        have HR2 := Lib.hid (row_mono hrow2 (Nat.le_succ R))
        have HB2 := Lib.hid (st.out.bw.trans (ht.grownB ht.bt.2.2.1 hgX))
        clear ht hrow hrow2 hmX hgX hsX st hrg hle
        go_wp2
        go_ret
        exact ⟨g, c, rfl, by rw [hR]; exact HR2.out, H2.out, HB2.out⟩
    · intro x c kl y1 y2 w2 cnt1 hkey hlk hv hat hrg1 hlt hg1 hs1 hen
      obtain ⟨x', ex, rfl⟩ := key_str hkey
      injection ex with ex
      subst ex
      obtain ⟨c', ec, ey⟩ := rdB_inv hv
      obtain rfl := pV_inj ec
      obtain rfl : y1 = .lit (.int .i64 (encF c)) := (Prod.mk.inj ey).1
      have hcx : c = s.hd o x := by
        have h1 := hat (.lit (.int .i64 0))
        have h2 := HAT.out x
        have h3 : D0.atKey (.string x.data.toList) (.lit (.int .i64 0)) = .lit (.int .i64 (encF (s.hd o x))) := h2
        rw [h3] at h1
        have h4 : encF (s.hd o x) = encF c := by injection h1 with h1; injection h1
        exact (encF_inj h4).symm
      cases dn with
      | true =>
        exfalso
        have h1 := st.out.df rfl x
        rw [h1] at hlk
        cases hlk
      | false =>
        obtain ⟨hlf, hv0⟩ := st.out.nf rfl
        have hxk : x = k := by
          rw [hlf] at hlk
          have h1 := HAS.out x
          have h2 : has D0 (.string x.data.toList) = (s.hd o x).isSome := h1
          rw [h2] at hlk
          by_cases e : x = k
          · exact e
          · rw [HD2.out x e] at hlk; cases hlk
        subst hxk
        rw [HD1.out] at hcx
        subst hcx
        subst hv0
        have ht := st.out.t
        rw [if_neg (by simp)] at ht
        obtain ⟨⟨r0, r1, r2, r3, r4⟩, r5, r6⟩ := st.out.hR
        have ht2 := Lib.hid (ht.turn (iter_cell st.out.rg) ⟨r1, r2, r3, r4⟩ hg1)
        have u0 := ht2.out.t0
        have l3 := ht2.out.m0.look lockMap x (show x.size ≤ maxLen by unfold maxLen; omega)
        rw [HK.out] at l3
        have l3 : (Instr.lookup 56 (.map (some ml)) (.string x) false).run Try.prog w2 = .ok (.pointer (some ⟨K, 0, none⟩)) w2 := l3
        have KD := Lib.hid (drop_any (q1 := q1) (q2 := q2) (w := w) (HE.out ▸ ht2.out.qa x K HK.out 0 (by decide) : QAt w2 K (2 * 0) (q1 ++ w :: q2)))
        have hen : (Instr.entry (.pointer (some ⟨R, 0, none⟩))).run Try.prog w2 = .ok (.tuple #[.string x, .pointer (some ⟨w, 0, none⟩)]) w2 := hen
        have HB2 := Lib.hid ((st.out.bw.trans ((Below.refl B wr).grown hg1 ht.lts (fun g e => by injection e with e; omega))))
        have RG := Lib.hid hrg1
        have HLF := Lib.hid hlf
        have hlt2 := hlt
        clear st ht hrg1 hg1 hkey hlk hv hat hlf hlt ec ey
        go_wp2_with fail
        refine KD.out.mono ?_
        rintro e w3 ⟨rfl, hq, hc⟩
        obtain ⟨h3, _⟩ := ht2.out.dropQ (i := 0) (by decide) HK.out HE.out hq hc
        have hb3 := HB2.out.trans (ht2.out.drop_below (i := 0) (by decide) HK.out HE.out hc)
        have nS : ∀ b', (∀ {i v}, w2.cell? ⟨b', i, none⟩ = some v → False) → ∀ j, ¬ DropS K (2 * 0) (q1 ++ q2) b' j := fun b' hb' j q => by
          rcases q with ⟨q, _⟩ | ⟨q, _⟩
          · exact hb' (q ▸ (ht2.out.qa x K HK.out 0 (by decide)).f)
          · refine hb' (ht2.out.wc 0 x b' (by decide) ?_).c0
            rw [HE.out]
            rcases List.mem_append.1 q with q | q
            · exact List.mem_append_left _ q
            · exact List.mem_append_right _ (List.mem_cons_of_mem _ q)
        have hrg3 := ranges_blocks RG.out (hc.block m (ht2.out.md o m HM.out).lt (nS m (fun hb' => by rw [(ht2.out.md o m HM.out).no_cell] at hb'; cases hb'))) (hc.block R RG.out.lt (nS R (fun hb' => by rw [iter_cell RG.out] at hb'; cases hb')))
        have hsz3 := hc.size
        have hsR : R < w3.heap.size := Nat.lt_of_lt_of_le RG.out.lt hsz3
        have H4 := Lib.hid (h3.below ((Below.refl _ _).alloc (Nat.le_refl _) (.cells #[.string x] 9)))
        have hrg4 := Lib.hid (hrg3.alloc (.cells #[.string x] 9))
        have hb4 := Lib.hid (hb3.alloc h3.lts (.cells #[.string x] 9))
        have hcl : (w3.alloc (.cells #[.string x] 9)).cell? ((⟨w3.heap.size, 0, none⟩ : Addr).add 0) = some (.string x) := new_cell rfl rfl
        have hs4 : (w3.alloc (.cells #[.string x] 9)).heap.size = w3.heap.size + 1 := World.size_alloc _ _
        clear hq hc h3 hb3 hrg3 nS KD HB2 RG hsz3
        go_wp2_with (at_builtin; refine append_s rfl _ _ rfl (R + 1) (.slice none 0 0) [] ⟨w3.heap.size, 0, none⟩ x 1 rfl (RowS.none _ _) rfl hcl (by simp) (by omega) ?_)
        intro v5 w5 hr5 hg5 ho5
        have hbe : Below (w3.alloc (.cells #[.string x] 9)).heap.size (w3.alloc (.cells #[.string x] 9)) w5 := ⟨hg5.os, hg5.tape, hg5.output, hg5.size, fun j hj => hg5.block j hj (by simp [Value.ownBlock])⟩
        have hrg5 := hrg4.out.kept hg5 (by simp [Value.ownBlock]) (by simp [Value.ownBlock])
        have ST : Hid (LgW B W w5 T ml mh mw n m R s x q1 q2 D0 true v5 (fun z => lf z && !z.sameKey (.string x.data.toList)) cnt1) := ⟨H4.out.below hbe, hrg5, fun e => by (cases e), fun _ t => by
          by_cases e : t = x
          · subst e
            simp [Lit.sameKey]
          · rw [HLF.out]
            have h2 : has D0 (.string t.data.toList) = (s.hd o t).isSome := HAS.out t
            rw [h2, HD2.out t e]
            rfl, hr5, hb4.out.trans (hbe.mono H4.out.lts), ⟨⟨r0, r1, r2, r3, r4⟩, by have := hg5.size; omega, r6⟩⟩
        have HMS := Lib.hid hrg5.left_eq
        clear hr5 hg5 ho5 hbe hrg5 hb4 hrg4 H4
        go_wp2
        go_roundw
        case rel => exact ⟨true, _, cnt1, ST⟩
        case measure => rw [HMS.out, hle]; exact hlt2
end
end Go.Proofs.Ytjojempjmpaaaaa
