/-
  THE CONTRACT OF the reference's Put.
-/
import Derived.Test.YtgkpbchpjgkblaaDoorPgSetAny
import Derived.Test.YtgkpbchpjgkblaaDoorPgTakeP
import Derived.Deep.RegionLaw
namespace Go.Proofs.YtgkpbchpjgkblaaDoor
open Go.RowKit
/-- What Put's loop adds, from a place on. -/
def putT (key s : ByteArray) : List (ByteArray × ByteArray) → Bool → List (ByteArray × ByteArray)
  | [], d => if d = true then [] else [(key, s)]
  | c :: r, d => (if d = false ∧ upC c.1 key = false then [(key, s)] else []) ++ (if c.1 = key then [] else [c]) ++ putT key s r (d || !upC c.1 key)
theorem putT_above {key s : ByteArray} : ∀ {l : List (ByteArray × ByteArray)}, (∀ x ∈ l, upC key x.1 = true) → putT key s l true = l
  | [], _ => rfl
  | c :: l, h => by
    have h1 := upC_ne (h c (List.mem_cons_self ..))
    rw [putT, if_neg (fun q => by cases q.1), if_neg (fun e => h1 e.symm), Bool.true_or, putT_above (fun x hx => h x (List.mem_cons_of_mem _ hx))]
    rfl
theorem putT_all {key s : ByteArray} (h : Bool) : ∀ {l : List (ByteArray × ByteArray)}, UpL l → putT key s l (!h) = ptL l key h s
  | [], _ => by cases h <;> rfl
  | c :: l, hu => by
    have hu' := hu
    unfold UpL at hu'
    rw [List.pairwise_cons] at hu'
    obtain ⟨hab, hul⟩ := hu'
    have ih := putT_all (key := key) (s := s) h hul
    rw [putT, ptL]
    by_cases e : c.1 = key
    · have hab' : ∀ x ∈ l, upC key x.1 = true := fun x hx => by rw [← e]; exact hab x hx
      have hf : upC c.1 key = false := by rw [e]; exact upC_irrefl key
      rw [if_pos e, if_pos e, hf]
      cases h
      · rw [if_neg (fun q => by cases q.1)]
        show [] ++ [] ++ putT key s l true = _
        rw [putT_above hab']; rfl
      · rw [if_pos ⟨rfl, rfl⟩]
        show [(key, s)] ++ [] ++ putT key s l true = _
        rw [putT_above hab']; rfl
    · rw [if_neg e, if_neg e]
      by_cases e2 : upC key c.1 = true
      · have hf := upC_asymm e2
        have hab' : ∀ x ∈ l, upC key x.1 = true := fun x hx => upC_trans e2 (hab x hx)
        rw [if_pos e2, hf]
        cases h
        · rw [if_neg (fun q => by cases q.1)]
          show [] ++ [c] ++ putT key s l true = _
          rw [putT_above hab']; rfl
        · rw [if_pos ⟨rfl, rfl⟩]
          show [(key, s)] ++ [c] ++ putT key s l true = _
          rw [putT_above hab']; rfl
      · have hf := upC_other e e2
        rw [if_neg e2, hf, if_neg (fun q => by cases q.2)]
        show [] ++ [c] ++ putT key s l ((!h) || false) = _
        rw [Bool.or_false, ih]; rfl
theorem putT_drop {key s : ByteArray} {l : List (ByteArray × ByteArray)} {k : Nat} (hk : k < l.length) (d : Bool) : putT key s (l.drop k) d = (if d = false ∧ upC (l.getD k noCl).1 key = false then [(key, s)] else []) ++ (if (l.getD k noCl).1 = key then [] else [l.getD k noCl]) ++ putT key s (l.drop (k + 1)) (d || !upC (l.getD k noCl).1 key) := by
  rw [List.drop_eq_getElem_cons hk, putT, List.getD_eq_getElem?_getD, List.getElem?_eq_getElem hk]; rfl
/-- append to a row of cells of the call's own, as a step of a region that draws. -/
theorem step_append_cls {ops : Array Oper} {o : Oper} {a : Act} {w : World} {K : Act → World → Prop} {Q : Exit → Act → World → Prop} {E : Prop}
    (hg : o.guard = none) (s x : Operand) (hop : o.op = Op.call { callee := Callee.builtin Builtin.append, args := #[s, x], argTypes := #[22, 22] })
    (B : Nat) (v : Value) (l : List (ByteArray × ByteArray)) (ad : Addr) (m : List (ByteArray × ByteArray)) (c : Nat) (hs : a.eval s = v) (hown : RowC w B v l) (hx : a.eval x = .slice (some ad) m.length c) (hm : ∀ j u, (clsC m)[j]? = some u → w.cell? (ad.add j) = some u) (h10 : l.length ≤ 1000) (h11 : m.length ≤ 1000) (hB : B ≤ w.heap.size)
    (hK : ∀ v' w', RowC w' B v' (l ++ m) → w.grownBy w' v.ownBlock → K (a.put o.dst v') w') :
    if Region.wanted o (yielded ops a.tmps) = true then Oper.wp Tryd.prog o a w K Q else E := by
  have hw : Region.wanted o (yielded ops a.tmps) = true := by simp [Region.wanted, hg]
  rw [if_pos hw]
  obtain ⟨i0, hi, hzz⟩ := Option.map_eq_some_iff.1 infoC
  simp only [Prod.mk.injEq] at hzz
  obtain ⟨hz0, hz1, hz2⟩ := hzz
  obtain ⟨v', w', hrun, r1, r2, _⟩ := run_append_own (P := Tryd.prog) w B 22 o.type 44 i0 _ 2 32 Tryd.underlying22 hi hz0 hz1 hz2 rfl (by decide) v l.length (clsC l) hown ad m.length c (clsC m) (clsC_len m) hm (cls_one m) (by unfold maxLen; omega) (by omega) hB
  unfold Oper.wp
  simp [execOp, hop, resolve, invoke, builtin, hs, hx, hrun, Result.andThen]
  refine hK v' w' ?_ r2
  unfold RowC
  rw [List.length_append, clsC_append]; exact r1
/-- What stays there in Put's loop beside the page that is made. -/
structure PtE (W : World) (A B : Nat) (a : Option Addr) (l : List (ByteArray × ByteArray)) (c : Nat) (h : Bool) (s : ByteArray) : Prop where
  p2 : W.cell? ⟨A, 2, none⟩ = some (.slice a l.length c)
  v1 : W.cell? ⟨B, 1, none⟩ = some (.string s)
  cl : ClsAt W a l
theorem PtE.below {W X : World} {A B : Nat} {a : Option Addr} {l : List (ByteArray × ByteArray)} {c : Nat} {h : Bool} {s : ByteArray} (e : PtE W A B a l c h s) (hb : Below W.heap.size W X) : PtE X A B a l c h s := ⟨keep_cell hb e.p2, keep_cell hb e.v1, e.cl.below hb⟩
theorem TkW.far {w W X : World} {P : Nat} {no g : Int} {v : Value} {l : List (ByteArray × ByteArray)} (h : TkW w W P no g v l) (hg : W.grownBy X v.ownBlock) {p : Addr} (hp : p.block < P + 1) : X.cell? p = W.cell? p := by
  have hs : P + 1 ≤ W.heap.size := block_lt h.p0
  have hb : Below (P + 1) W X := (Below.refl _ _).grown hg hs (fun k hk => (h.row.lt k hk).1)
  exact hb.cell hp
set_option maxRecDepth 100000 in
set_option maxHeartbeats 4000000 in
theorem refPut_any (no gsn : Int) (a : Option Addr) (l : List (ByteArray × ByteArray)) (c : Nat) (key : ByteArray) (h : Bool) (s : ByteArray) (g : Int) (w : World) (hn : l.length ≤ 8) (hu : UpL l) (ha : ClsAt w a l) :
    Calls Tryd.prog 31 #[.agg #[.int .i64 no, .int .i64 gsn, .slice a l.length c], .string key, .agg #[.bool h, .string s], .int .i64 g] w fun e w' => ∃ a' c', e = .returned (.agg #[.int .i64 no, .int .i64 g, .slice a' (ptL l key h s).length c']) ∧ RowC w' w.heap.size (.slice a' (ptL l key h s).length c') (ptL l key h s) ∧ Below w.heap.size w w' := by
  have hL := Lib.hid (putT_all (key := key) (s := s) h hu)
  have hlen : (ptL l key h s).length ≤ 9 := by have := (len_put hu key h s).1; omega
  generalize ptL l key h s = L at hL hlen ⊢
  have E0 : Hid (PtE ((w.alloc (.cells #[.int .i64 no, .int .i64 gsn, .slice a l.length c] 24)).alloc (.cells #[.bool h, .string s] 29)) w.heap.size (w.heap.size + 1) a l c h s) := ⟨keep_alloc (new_cell rfl rfl), new_cell (by rw [World.size_alloc]) rfl, ha.below (((Below.refl _ _).alloc (Nat.le_refl _) _).alloc (by rw [World.size_alloc]; omega) _)⟩
  have HB0 : Hid (Below w.heap.size w ((w.alloc (.cells #[.int .i64 no, .int .i64 gsn, .slice a l.length c] 24)).alloc (.cells #[.bool h, .string s] 29))) := bw_alloc (bw_alloc (Below.refl _ _))
  have hsz : ((w.alloc (.cells #[.int .i64 no, .int .i64 gsn, .slice a l.length c] 24)).alloc (.cells #[.bool h, .string s] 29)).heap.size = w.heap.size + 1 + 1 := by rw [World.size_alloc, World.size_alloc]
  clear hu ha
  go_enter Tryd.func31, Tryd.ntmps31
  go_wp2
  generalize (w.alloc (.cells #[.int .i64 no, .int .i64 gsn, .slice a l.length c] 24)).alloc (.cells #[.bool h, .string s] 29) = W0 at *
  rw [← hsz]
  have R0 := Lib.hid (tkR_new W0 24)
  have hs1 : (W0.alloc (.cells #[.int .i64 0, .int .i64 0, .slice none 0 0] 24)).heap.size = W0.heap.size + 1 := World.size_alloc _ _
  generalize W0.alloc (.cells #[.int .i64 0, .int .i64 0, .slice none 0 0] 24) = W1 at *
  have T0 := Lib.hid (tkW_new R0.out (by omega) no g)
  rw [← hs1]
  generalize W1.alloc (.cells #[.int .i64 no, .int .i64 g, .slice none 0 0] 24) = W2 at *
  generalize W1.heap.size = P at *
  generalize hpa : w.heap.size = PA at *
  have HPA := Lib.hid hpa
  clear hpa
  have hPA : Hid (PA < P + 1) := by show PA < P + 1; omega
  have hPA2 : Hid (PA < P) := by show PA < P; omega
  have HS1 := Lib.hid hs1
  clear hsz R0 hs1

  go_loopw [10, 11] (fun dv i wr => ∃ (k : Nat) (d : Bool) (O : List (ByteArray × ByteArray)) (v : Value), k ≤ l.length ∧ i = .int .i64 k ∧ dv = .bool d ∧ O.length ≤ 2 * k ∧ Hid (O ++ putT key s (l.drop k) d = L) ∧ Hid (TkW W0 wr P no g v O)) (fun _ i _ => l.length - (intOf i).toNat)
  case atStart => exact ⟨0, !h, [], _, Nat.zero_le _, rfl, rfl, by simp, by rw [Hid, List.nil_append]; exact hL.out, T0⟩
  case round =>
    obtain ⟨k, d, O, v, hk, rfl, rfl, hO, HL, HT⟩ := hrel
    rename World => wa
    clear hL T0
    have hbw := HT.out.res.bw
    have EA := Lib.hid (E0.out.below hbw)
    have p2 := EA.out.p2
    have v1 := EA.out.v1
    have hO9 : O.length ≤ 1000 := by omega
    by_cases hlt : k < l.length
    · have hk0 : (0 : Int) ≤ (k : Int) := by omega
      have hk1 : (k : Int) < (l.length : Int) := by omega
      obtain ⟨b, off, rfl, c1, c2⟩ := EA.out.cl.at hlt
      have hbP2 : Hid (b < P) := by
        obtain ⟨b', off', e', d1, _⟩ := E0.out.cl.at hlt
        injection e' with e'
        injection e' with e1 e2
        subst e1
        have := block_lt d1
        show b < P
        have : b < W0.heap.size := this
        have := HS1.out
        omega
      have hbP : Hid (b < P + 1) := Nat.lt_succ_of_lt hbP2.out
      rw [putT_drop hlt] at HL
      have HU : upC (l.getD k noCl).1 key = Op.bytesLess (l.getD k noCl).1.toList key.toList := rfl
      rw [show l.getD k noCl = ((l.getD k noCl).1, (l.getD k noCl).2) from rfl] at HL
      simp only at HL
      rw [HU] at HL
      clear HU EA hbw
      generalize (l.getD k noCl).1 = x at *
      generalize (l.getD k noCl).2 = y at *
      cases d with
      | true =>
        rw [if_neg (fun q => by cases q.1)] at HL
        have q2 := HT.out.p2
        have qf := HT.out.pf
        clear v1
        by_cases e : x = key
        · subst e
          rw [if_pos rfl] at HL
          have HL9 : Hid (O ++ putT x s (l.drop (k + 1)) true = L) := by rw [Hid, ← HL.out]; simp []
          clear HL
          go_wp2
          go_roundw
          case rel => exact ⟨k + 1, true, O, _, by omega, by go_num, rfl, by (first | omega | (simp only [List.length_append, List.length_cons, List.length_nil]; omega)), HL9, HT⟩
          case measure => simp [intOf]; omega
        · have f1 := ba_neL e
          have f2 := ba_neL' e
          rw [if_neg e] at HL
          have HL9 : Hid ((O ++ [(x, y)]) ++ putT key s (l.drop (k + 1)) true = L) := by rw [Hid, ← HL.out]; simp []
          clear HL e
          have hyz : Below wa.heap.size wa (wa.alloc (.cells #[.string x, .string y] 44)).drew := ((Below.refl _ _).alloc (Nat.le_refl _) _).drew
          have T7 := Lib.hid (HT.out.below hyz)
          have HPZ : Hid (P + 1 ≤ (wa.alloc (.cells #[.string x, .string y] 44)).drew.heap.size) := block_lt T7.out.p0
          have MZ : Hid (∀ j u, (clsC [(x, y)])[j]? = some u → (wa.alloc (.cells #[.string x, .string y] 44)).drew.cell? ((⟨wa.heap.size, 0, none⟩ : Addr).add j) = some u) := fun j u hj => by
            match j, hj with
            | 0, hj => exact (new_cell rfl rfl).trans hj
            | 1, hj => exact (new_cell rfl rfl).trans hj
          clear hyz
          have qy := keep_alloc (o := .cells #[.string x, .string y] 44) q2
          go_upto_region 10 with fail
          go_region_law ((refine step_append_cls (by rfl) _ _ (by rfl) (P + 1) v O ⟨wa.heap.size, 0, none⟩ [(x, y)] 1 (by rfl) T7.out.row (by rfl) MZ.out (by omega) (by simp) HPZ.out ?_; intro v9 w9 r9 hg9; obtain ⟨a9, c9, rfl, _⟩ := r9.cls; generalize hn9 : (O ++ [(x, y)]).length = n9 at r9 ⊢; clear hn9; have qz := (T7.out.there hg9).1; have qf := (T7.out.there hg9).2; have T9 := Lib.hid (T7.out.put r9 hg9); clear r9 hg9 T7 MZ HPZ))
          all_goals go_wp2
          all_goals
            go_roundw
            case rel => exact ⟨k + 1, true, O ++ [(x, y)], _, by omega, by go_num, rfl, by (first | omega | (simp only [List.length_append, List.length_cons, List.length_nil]; omega)), HL9, T9⟩
            case measure => simp [intOf]; omega
      | false =>
        cases hu : Op.bytesLess x.toList key.toList with
        | true =>
          have e : x ≠ key := fun e => by
            subst e
            have := upC_irrefl x
            unfold upC at this
            rw [this] at hu
            cases hu
          have f1 := ba_neL e
          have f2 := ba_neL' e
          rw [if_neg (fun q => by rw [hu] at q; cases q.2), if_neg e, hu] at HL
          have HL9 : Hid ((O ++ [(x, y)]) ++ putT key s (l.drop (k + 1)) false = L) := by rw [Hid, ← HL.out]; simp
          have q2 := HT.out.p2
          have qf := HT.out.pf
          clear HL e v1
          have hyz : Below wa.heap.size wa (wa.alloc (.cells #[.string x, .string y] 44)).drew := ((Below.refl _ _).alloc (Nat.le_refl _) _).drew
          have T7 := Lib.hid (HT.out.below hyz)
          have HPZ : Hid (P + 1 ≤ (wa.alloc (.cells #[.string x, .string y] 44)).drew.heap.size) := block_lt T7.out.p0
          have MZ : Hid (∀ j u, (clsC [(x, y)])[j]? = some u → (wa.alloc (.cells #[.string x, .string y] 44)).drew.cell? ((⟨wa.heap.size, 0, none⟩ : Addr).add j) = some u) := fun j u hj => by
            match j, hj with
            | 0, hj => exact (new_cell rfl rfl).trans hj
            | 1, hj => exact (new_cell rfl rfl).trans hj
          clear hyz
          have qy := keep_alloc (o := .cells #[.string x, .string y] 44) q2
          go_upto_region 10 with fail
          go_region_law ((refine step_append_cls (by rfl) _ _ (by rfl) (P + 1) v O ⟨wa.heap.size, 0, none⟩ [(x, y)] 1 (by rfl) T7.out.row (by rfl) MZ.out (by omega) (by simp) HPZ.out ?_; intro v9 w9 r9 hg9; obtain ⟨a9, c9, rfl, _⟩ := r9.cls; generalize hn9 : (O ++ [(x, y)]).length = n9 at r9 ⊢; clear hn9; have qz := (T7.out.there hg9).1; have qf := (T7.out.there hg9).2; have T9 := Lib.hid (T7.out.put r9 hg9); clear r9 hg9 T7 MZ HPZ))
          all_goals go_wp2
          all_goals
            go_roundw
            case rel => exact ⟨k + 1, false, O ++ [(x, y)], _, by omega, by go_num, rfl, by (first | omega | (simp only [List.length_append, List.length_cons, List.length_nil]; omega)), HL9, T9⟩
            case measure => simp [intOf]; omega
        | false =>
          rw [if_pos ⟨rfl, hu⟩, hu] at HL
          have hy0 : Below wa.heap.size wa (wa.alloc (.cells #[.string key, .string s] 44)) := (Below.refl _ _).alloc (Nat.le_refl _) _
          have T8 := Lib.hid (HT.out.below hy0)
          have HPS : Hid (P + 1 ≤ (wa.alloc (.cells #[.string key, .string s] 44)).heap.size) := block_lt T8.out.p0
          have M8 : Hid (ClsAt (wa.alloc (.cells #[.string key, .string s] 44)) (some ⟨wa.heap.size, 0, none⟩) [(key, s)]) := .inr ⟨wa.heap.size, 0, rfl, fun i hi => by
            match i, hi with
            | 0, _ => exact ⟨new_cell rfl rfl, new_cell rfl rfl⟩⟩
          have q2 := HT.out.p2
          clear hy0
          go_wp2_with (at_builtin; refine append_cls rfl _ _ rfl (P + 1) v O (some ⟨wa.heap.size, 0, none⟩) [(key, s)] 1 rfl T8.out.row rfl M8.out (fun e => by cases e) hO9 (by simp) HPS.out ?_)
          intro v' w8 r1 hg
          obtain ⟨a', c', rfl, _⟩ := r1.cls
          obtain ⟨n', hn'⟩ : ∃ n, n = (O ++ [(key, s)]).length := ⟨_, rfl⟩
          rw [← hn'] at r1 ⊢
          clear hn'
          have hfar : ∀ {p : Addr} {u : Value}, p.block < P + 1 → wa.cell? p = some u → (w8.setCell ⟨P, 2, none⟩ (.slice a' n' c')).cell? p = some u ∨ p = ⟨P, 2, none⟩ := fun {p} {u} hp hc => by
            by_cases e : p = ⟨P, 2, none⟩
            · exact .inr e
            · exact .inl (by rw [World.cell?_setCell_other _ _ _ _ (fun q => e q.symm)]; exact (T8.out.far hg hp).trans (keep_alloc hc))
          have p2 := (hfar (show PA < P + 1 from hPA.out) p2).resolve_right (fun e => by injection e with e _; have := hPA2.out; omega)
          have c1 := (hfar (show b < P + 1 from hbP.out) c1).resolve_right (fun e => by injection e with e _; have := hbP2.out; omega)
          have c2 := (hfar (show b < P + 1 from hbP.out) c2).resolve_right (fun e => by injection e with e _; have := hbP2.out; omega)
          have q2 := (T8.out.there hg).1
          have qf := (T8.out.there hg).2
          have T8 := Lib.hid (T8.out.put r1 hg)
          clear hfar r1 hg M8 HPS HT v1
          go_upto_region 9 with fail
          clear q2 qf
          obtain ⟨q0, q1, q2, qf⟩ : (w8.setCell ⟨P, 2, none⟩ (.slice a' n' c')).cell? ⟨P, 0, none⟩ = some (.int .i64 no) ∧ (w8.setCell ⟨P, 2, none⟩ (.slice a' n' c')).cell? ⟨P, 1, none⟩ = some (.int .i64 g) ∧ (w8.setCell ⟨P, 2, none⟩ (.slice a' n' c')).cell? ⟨P, 2, none⟩ = some (.slice a' n' c') ∧ ∀ i, (w8.setCell ⟨P, 2, none⟩ (.slice a' n' c')).frozen? ⟨P, i, none⟩ = false := ⟨T8.out.p0, T8.out.p1, T8.out.p2, T8.out.pf⟩
          generalize w8.setCell ⟨P, 2, none⟩ (.slice a' n' c') = wb at *
          by_cases e : x = key
          · subst e
            rw [if_pos rfl] at HL
            have HL9 : Hid ((O ++ [(x, s)]) ++ putT x s (l.drop (k + 1)) true = L) := by rw [Hid, ← HL.out]; simp []
            clear HL
            go_wp2
            go_roundw
            case rel => exact ⟨k + 1, true, (O ++ [(x, s)]), _, by omega, by go_num, rfl, by (first | omega | (simp only [List.length_append, List.length_cons, List.length_nil]; omega)), HL9, T8⟩
            case measure => simp [intOf]; omega
          · have f1 := ba_neL e
            have f2 := ba_neL' e
            rw [if_neg e] at HL
            have HL9 : Hid (((O ++ [(key, s)]) ++ [(x, y)]) ++ putT key s (l.drop (k + 1)) true = L) := by rw [Hid, ← HL.out]; simp []
            clear HL e
            have hyz : Below wb.heap.size wb (wb.alloc (.cells #[.string x, .string y] 44)).drew := ((Below.refl _ _).alloc (Nat.le_refl _) _).drew
            have T7 := Lib.hid (T8.out.below hyz)
            have HPZ : Hid (P + 1 ≤ (wb.alloc (.cells #[.string x, .string y] 44)).drew.heap.size) := block_lt T7.out.p0
            have MZ : Hid (∀ j u, (clsC [(x, y)])[j]? = some u → (wb.alloc (.cells #[.string x, .string y] 44)).drew.cell? ((⟨wb.heap.size, 0, none⟩ : Addr).add j) = some u) := fun j u hj => by
              match j, hj with
              | 0, hj => exact (new_cell rfl rfl).trans hj
              | 1, hj => exact (new_cell rfl rfl).trans hj
            clear hyz
            have qy := keep_alloc (o := .cells #[.string x, .string y] 44) q2
            go_upto_region 10 with fail
            go_region_law ((refine step_append_cls (by rfl) _ _ (by rfl) (P + 1) (.slice a' n' c') (O ++ [(key, s)]) ⟨wb.heap.size, 0, none⟩ [(x, y)] 1 (by rfl) T7.out.row (by rfl) MZ.out (by simp only [List.length_append, List.length_cons, List.length_nil]; omega) (by simp) HPZ.out ?_; intro v9 w9 r9 hg9; obtain ⟨a9, c9, rfl, _⟩ := r9.cls; generalize hn9 : ((O ++ [(key, s)]) ++ [(x, y)]).length = n9 at r9 ⊢; clear hn9; have qz := (T7.out.there hg9).1; have qf := (T7.out.there hg9).2; have T9 := Lib.hid (T7.out.put r9 hg9); clear r9 hg9 T7 MZ HPZ))
            all_goals go_wp2
            all_goals
              go_roundw
              case rel => exact ⟨k + 1, true, (O ++ [(key, s)]) ++ [(x, y)], _, by omega, by go_num, rfl, by (first | omega | (simp only [List.length_append, List.length_cons, List.length_nil]; omega)), HL9, T9⟩
              case measure => simp [intOf]; omega
    · have hk1 : (l.length : Int) ≤ (k : Int) := by omega
      have hdr : l.drop k = [] := List.drop_eq_nil_of_le (by omega)
      rw [hdr] at HL
      clear hdr EA hbw
      cases d with
      | true =>
        have HL9 : O = L := by rw [← HL.out]; show O = O ++ []; rw [List.append_nil]
        subst HL9
        clear HL v1
        obtain ⟨⟨r0, r1, r2, rf, bw⟩, p0, p1, p2, pf, row, hP⟩ := HT.out
        have ROW := Lib.hid row
        obtain ⟨a', c', rfl, _⟩ := row.cls
        have hP' := Lib.hid hP
        clear row hP HT
        go_wp2
        obtain ⟨X, hX, x0, x1, x2, hbX, hgX⟩ := set3 (v0 := .int .i64 no) (v1 := .int .i64 g) (v2 := .slice a' O.length c') bw (Nat.le_refl _) r0 r1 r2
        rw [← hX]
        have RX : RowC X (P + 1) (.slice a' O.length c') O := World.ownsRow.kept ROW.out hgX (by
          cases ho : (Value.slice a' O.length c').ownBlock with
          | none => exact .inl rfl
          | some k => exact .inr (fun e => by
              injection e with e
              have := (ROW.out.lt k ho).1
              have := hP'.out
              omega))
        refine bodyPost_ret (v := .agg #[.int .i64 no, .int .i64 g, .slice a' O.length c']) ?_ rfl ⟨a', c', rfl, RX.base (by have := hPA2.out; have := HPA.out; omega), by rw [HPA.out]; exact HB0.out.trans (hbX.mono (by have := hPA2.out; have := HS1.out; omega))⟩
        simp [results, Tryd.results31, go_sem, x0, x1, x2]
      | false =>
        have HL9 : Hid (O ++ [(key, s)] = L) := by rw [Hid, ← HL.out]; rfl
        clear HL
        have hy0 : Below wa.heap.size wa (wa.alloc (.cells #[.string key, .string s] 44)) := (Below.refl _ _).alloc (Nat.le_refl _) _
        have T8 := Lib.hid (HT.out.below hy0)
        have HPS : Hid (P + 1 ≤ (wa.alloc (.cells #[.string key, .string s] 44)).heap.size) := block_lt T8.out.p0
        have M8 : Hid (ClsAt (wa.alloc (.cells #[.string key, .string s] 44)) (some ⟨wa.heap.size, 0, none⟩) [(key, s)]) := .inr ⟨wa.heap.size, 0, rfl, fun i hi => by
          match i, hi with
          | 0, _ => exact ⟨new_cell rfl rfl, new_cell rfl rfl⟩⟩
        have q2 := HT.out.p2
        clear hy0
        go_wp2_with (at_builtin; refine append_cls rfl _ _ rfl (P + 1) v O (some ⟨wa.heap.size, 0, none⟩) [(key, s)] 1 rfl T8.out.row rfl M8.out (fun e => by cases e) hO9 (by simp) HPS.out ?_)
        intro v' w8 row hg
        rw [HL9.out] at row
        have q2 := (T8.out.there hg).1
        have qf := (T8.out.there hg).2
        have T9 := Lib.hid (T8.out.put (l' := L) row hg)
        obtain ⟨a', c', rfl, _⟩ := row.cls
        clear row hg M8 HPS HT v1 T8
        go_upto_region 13 with fail
        clear q2 qf
        obtain ⟨⟨r0, r1, r2, rf, bw⟩, p0, p1, p2, pf, row, hP⟩ := T9.out
        have ROW := Lib.hid row
        have hP' := Lib.hid hP
        clear row hP T9
        generalize w8.setCell ⟨P, 2, none⟩ (.slice a' L.length c') = wb at *
        go_wp2
        obtain ⟨X, hX, x0, x1, x2, hbX, hgX⟩ := set3 (v0 := .int .i64 no) (v1 := .int .i64 g) (v2 := .slice a' L.length c') bw (Nat.le_refl _) r0 r1 r2
        rw [← hX]
        have RX : RowC X (P + 1) (.slice a' L.length c') L := World.ownsRow.kept ROW.out hgX (by
          cases ho : (Value.slice a' L.length c').ownBlock with
          | none => exact .inl rfl
          | some k => exact .inr (fun e => by
              injection e with e
              have := (ROW.out.lt k ho).1
              have := hP'.out
              omega))
        refine bodyPost_ret (v := .agg #[.int .i64 no, .int .i64 g, .slice a' L.length c']) ?_ rfl ⟨a', c', rfl, RX.base (by have := hPA2.out; have := HPA.out; omega), by rw [HPA.out]; exact HB0.out.trans (hbX.mono (by have := hPA2.out; have := HS1.out; omega))⟩
        simp [results, Tryd.results31, go_sem, x0, x1, x2]
end Go.Proofs.YtgkpbchpjgkblaaDoor
