/-
  ref14: Edges.
-/
import Derived.Test.YtjojempjmpaaaaaRefm4
namespace Go.Proofs.Ytjojempjmpaaaaa
open Go.RowKit
def brE (c : Wc) (r : List Wc) : List (Int × Int) := (r.filter (barB c)).map fun x => (c.ow, x.ow)
theorem brE_snoc (c : Wc) (r : List Wc) (x : Wc) : brE c (r ++ [x]) = brE c r ++ if barB c x = true then [(c.ow, x.ow)] else [] := by
  unfold brE
  rw [List.filter_append, List.map_append]
  congr 1
  by_cases h : barB c x = true
  · rw [if_pos h, List.filter_cons_of_pos h]; rfl
  · rw [if_neg h, List.filter_cons_of_neg h]; rfl
theorem brE_len (c : Wc) (r : List Wc) : (brE c r).length ≤ r.length := by
  unfold brE
  rw [List.length_map]
  exact List.length_filter_le _ _
/-- Who waits for a key, for whom. -/
def edL (h : List Wc) (kk : ByteArray) : List Wc → List Wc → List (Int × Int)
  | _, [] => []
  | d, c :: t => (if c.k = kk then brE c h ++ brE c d else []) ++ edL h kk (d ++ [c]) t
theorem edL_snoc (h : List Wc) (kk : ByteArray) (c : Wc) : ∀ (l d : List Wc), edL h kk d (l ++ [c]) = edL h kk d l ++ if c.k = kk then brE c h ++ brE c (d ++ l) else []
  | [], d => by simp [edL]
  | a :: t, d => by
    rw [List.cons_append, edL, edL, edL_snoc h kk c t (d ++ [a]), List.append_assoc, List.append_assoc]
    rfl
theorem edL_len (h : List Wc) (kk : ByteArray) {N : Nat} (hh : h.length ≤ N) : ∀ (l d : List Wc), d.length + l.length ≤ N → (edL h kk d l).length ≤ l.length * (N + N)
  | [], _, _ => by simp [edL]
  | c :: t, d, hd => by
    rw [edL, List.length_append, List.length_cons, Nat.add_mul, Nat.one_mul]
    rw [List.length_cons] at hd
    have h1 := brE_len c h
    have h2 := brE_len c d
    have h3 := edL_len h kk hh t (d ++ [c]) (by rw [List.length_append, List.length_singleton]; omega)
    have h4 : (if c.k = kk then brE c h ++ brE c d else []).length ≤ N + N := by
      split
      · rw [List.length_append]; omega
      · simp
    omega
def edgesR (h l : List Wc) : List (Int × Int) := (keysL (l.map (·.k))).flatMap fun kk => edL h kk [] l
theorem flat_lenN {α β : Type} (f : α → List β) {N : Nat} (hf : ∀ x, (f x).length ≤ N) : ∀ l : List α, (l.flatMap f).length ≤ l.length * N
  | [] => by simp
  | x :: t => by
    rw [List.flatMap_cons, List.length_append, List.length_cons, Nat.add_mul, Nat.one_mul]
    have h1 := hf x
    have h2 := flat_lenN f hf t
    omega
def RowF (W : World) (B : Nat) (v : Value) (l : List (Int × Int)) : Prop := W.ownsRow B 71 2 v l.length (flatE l)
theorem infoF14 : (Try.prog.info? 71).map (fun i => (i.zero, i.size, i.bytes)) = some (some (.agg #[.int .i64 0, .int .i64 0]), 2, 16) := by kernel_rfl
/-- append of an edge. -/
theorem append_f {w : World} {ops : Array Oper} {rest : List Oper} {o : Oper} {a : Act} {Q : Exit → Act → World → Prop} (hgd : o.guard = none) (s x : Operand)
    (ho : o.op = .call { callee := .builtin .append, args := #[s, x], argTypes := #[69, 69] })
    (B : Nat) (v : Value) (l : List (Int × Int)) (ad : Addr) (y : Int × Int) (c : Nat) (hs : a.eval s = v) (hown : RowF w B v l) (hx : a.eval x = .slice (some ad) 1 c) (hc : w.cell? (ad.add 0) = some (.int .i64 y.1)) (hc1 : w.cell? (ad.add 1) = some (.int .i64 y.2)) (h10 : l.length ≤ 1000000000) (hB : B ≤ w.heap.size)
    (h : ∀ v' w', RowF w' B v' (l ++ [y]) → w.grownBy w' v.ownBlock → (v'.ownBlock = v.ownBlock ∨ v'.ownBlock = some w.heap.size) → wpList Try.prog ops Q rest (a.put o.dst v') w') :
    wpList Try.prog ops Q (o :: rest) a w := by
  obtain ⟨i0, hi, hzz⟩ := Option.map_eq_some_iff.1 infoF14
  simp only [Prod.mk.injEq] at hzz
  obtain ⟨hz0, hz1, hz2⟩ := hzz
  refine append_rows hgd s x 69 ho B 71 i0 _ 2 16 Try.underlying69 hi hz0 hz1 hz2 rfl (by decide) v l.length (flatE l) hs hown (.slice (some ad) 1 c) 1 [.int .i64 y.1, .int .i64 y.2] hx (.inr ⟨ad, c, rfl, rfl, ?_, ?_⟩) (by unfold maxLen; omega) (by omega) hB (fun v' w' h1 h2 _ h4 => h v' w' ?_ h2 h4)
  · intro j u hj
    match j, hj with
    | 0, hj => simp at hj; subst hj; exact hc
    | 1, hj => simp at hj; subst hj; exact hc1
  · intro u hu; simp at hu; rcases hu with rfl | rfl <;> rfl
  · unfold RowF
    rw [List.length_append, flatE_append]; exact h1
/-- A claim's copy, which the row's block is not. -/
structure CP (X : World) (M : Nat) (v : Value) (c : Wc) : Prop where
  c : CL X M c
  ne : ∀ g, v.ownBlock = some g → g ≠ M
  lt : M < X.heap.size
theorem CP.below {X Y : World} {M : Nat} {v : Value} {c : Wc} (h : CP X M v c) (hb : Below X.heap.size X Y) : CP Y M v c := ⟨h.c.below hb, h.ne, Nat.lt_of_lt_of_le h.lt hb.size⟩
theorem CP.put {X Y : World} {M : Nat} {v v8 : Value} {c : Wc} (h : CP X M v c) (hg : X.grownBy Y v.ownBlock) (ho : v8.ownBlock = v.ownBlock ∨ v8.ownBlock = some X.heap.size) : CP Y M v8 c := by
  have hb : Y.heap[M]? = X.heap[M]? := hg.block M h.lt (fun e => h.ne M e.symm rfl)
  refine ⟨⟨(World.cell?_of_block (a := ⟨M, 0, none⟩) hb).trans h.c.c0, (World.cell?_of_block (a := ⟨M, 1, none⟩) hb).trans h.c.c1, (World.cell?_of_block (a := ⟨M, 2, none⟩) hb).trans h.c.c2⟩, fun g e => ?_, Nat.lt_of_lt_of_le h.lt hg.size⟩
  rcases ho with ho | ho
  · exact h.ne g (ho ▸ e)
  · rw [ho] at e
    injection e with e
    have := h.lt
    omega
theorem rowF_below {W X : World} {B : Nat} {v : Value} {l : List (Int × Int)} (h : RowF W B v l) (hb : Below W.heap.size W X) : RowF X B v l := ownsRow_of h (fun g e => hb.block g (World.ownsRow.lt h g e).2)
structure LnF (w0 wr : World) (v : Value) (l : List (Int × Int)) : Prop where
  row : RowF wr w0.heap.size v l
  bw : Below w0.heap.size w0 wr
theorem LnF.below {w0 wr X : World} {v : Value} {l : List (Int × Int)} (h : LnF w0 wr v l) (hb : Below wr.heap.size wr X) : LnF w0 X v l := ⟨rowF_below h.row hb, h.bw.trans (hb.mono h.bw.size)⟩
theorem LnF.put {w0 wr w8 : World} {v v8 : Value} {l l2 : List (Int × Int)} (h : LnF w0 wr v l) (hr : RowF w8 w0.heap.size v8 l2) (hg : wr.grownBy w8 v.ownBlock) : LnF w0 w8 v8 l2 :=
  ⟨hr, h.bw.grown hg h.bw.size (fun g e => (World.ownsRow.lt h.row g e).1)⟩
theorem RowF.mono {W : World} {B B' : Nat} {v : Value} {l : List (Int × Int)} (h : RowF W B v l) (hb : B' ≤ B) : RowF W B' v l := ⟨h.1, h.2.imp id fun ⟨g, cap, cur, q1, q2, q3⟩ => ⟨g, cap, cur, q1, Nat.le_trans hb q2, q3⟩⟩
section
variable {W : World}
set_option maxRecDepth 100000 in
set_option maxHeartbeats 16000000 in
theorem edges14_any (aH : Option Addr) (h : List Wc) (cH : Nat) (aL : Option Addr) (l : List Wc) (cL : Nat) (hl : h.length ≤ 100) (hl2 : l.length ≤ 100) (hm : WcsAt W aH h) (hn : WcsAt W aL l) :
    Calls Try.prog 26 #[tabV aH h cH aL l cL] W fun e W' => ∃ v, e = .returned v ∧ RowF W' W.heap.size v (edgesR h l) ∧ Below W.heap.size W W' := by
  have hba : Below W.heap.size W (W.alloc (.cells #[.slice aH h.length cH, .slice aL l.length cL] 29)) := (Below.refl _ _).alloc (Nat.le_refl _) _
  have hA := hm.below hba
  have hD := hn.below hba
  have t0 : (W.alloc (.cells #[.slice aH h.length cH, .slice aL l.length cL] 29)).cell? ⟨W.heap.size, 0, none⟩ = some (.slice aH h.length cH) := new_cell rfl rfl
  have t1 : (W.alloc (.cells #[.slice aH h.length cH, .slice aL l.length cL] 29)).cell? ⟨W.heap.size, 1, none⟩ = some (.slice aL l.length cL) := new_cell rfl rfl
  have HB := Lib.hid hba
  have hli : (h.length : Int) ≤ 100 := by omega
  have hli2 : (l.length : Int) ≤ 100 := by omega
  have HHL : Hid (h.length ≤ 100 ∧ l.length ≤ 100) := ⟨hl, hl2⟩
  clear hm hn hba
  unfold tabV
  go_enter Try.func26, Try.ntmps26
  go_upto_region 1 with fail
  generalize W.alloc (.cells #[.slice aH h.length cH, .slice aL l.length cL] 29) = Y at *
  generalize hC : W.heap.size = C at t0 t1 ⊢
  have hC2 := Lib.hid hC.symm
  have HT : Hid (∀ X, Below Y.heap.size Y X → X.cell? ⟨C, 0, none⟩ = some (.slice aH h.length cH) ∧ X.cell? ⟨C, 1, none⟩ = some (.slice aL l.length cL)) := fun X hX => ⟨keep_cell hX t0, keep_cell hX t1⟩
  have HA := Lib.hid hA
  have HD := Lib.hid hD
  have KK := Lib.hid (keys14_any (W := Y) aL l cL (by omega) hD)
  clear hA hD
  go_upto_region 2 with fail
  go_wp2_with fail
  refine KK.out.mono ?_
  rintro e w1 ⟨vk, rfl, hrk, hbk⟩
  obtain ⟨ak, ck, rfl, hka, _⟩ := rowS_shape hrk
  have HKA := Lib.hid hka
  have HBK := Lib.hid hbk
  have HKL : Hid ((keysL (l.map (·.k))).length ≤ 100) := by
    have := keysL_len (l.map (·.k))
    rw [List.length_map] at this
    show _ ≤ _
    omega
  have HG : Hid (edgesR h l = (keysL (l.map (·.k))).flatMap fun kk => edL h kk [] l) := rfl
  generalize keysL (l.map (·.k)) = ks at *
  have hks : (ks.length : Int) ≤ 100 := by have := HKL.out; omega
  have S0 : Hid (LnF w1 w1 (.slice none 0 0) ((ks.take 0).flatMap fun kk => edL h kk [] l)) := ⟨World.ownsRow_nil _ _ _ _, Below.refl _ _⟩
  clear KK hrk hka hbk t0 t1
  go_wp2
  go_loopw [3, 5] (fun v i wr => ∃ j : Nat, i = .int .i64 (j : Int) ∧ j ≤ ks.length ∧ Hid (LnF w1 wr v ((ks.take j).flatMap fun kk => edL h kk [] l))) (fun _ i _ => ks.length - (intOf i).toNat)
  case atStart => exact ⟨0, rfl, Nat.zero_le _, S0⟩
  case round =>
    obtain ⟨i, rfl, hi, st⟩ := hrel
    rename World => wr
    clear S0
    by_cases hlt : i < ks.length
    · have HLT := Lib.hid hlt
      have HSN := Lib.hid (flatMap_snoc (fun kk => edL h kk [] l) ks hlt)
      have HLEN : Hid (((ks.take i).flatMap fun kk => edL h kk [] l).length ≤ 2000000) := by
        have h1 := flat_lenN (fun kk => edL h kk [] l) (N := 20000) (fun kk => by
          have := edL_len h kk (N := 100) HHL.out.1 l [] (by simpa using HHL.out.2)
          have h3 := Nat.mul_le_mul_right 200 HHL.out.2
          omega) (ks.take i)
        rw [List.length_take] at h1
        have h2 : min i ks.length ≤ 100 := by have := HKL.out; omega
        have h3 := Nat.mul_le_mul_right 20000 h2
        show _ ≤ _
        omega
      have HKC : Hid (∃ gk ok, ak = some ⟨gk, ok, none⟩ ∧ ∀ X, Below w1.heap.size w1 X → X.cell? ⟨gk, ok + i, none⟩ = some (.string ks[i])) := by
        rcases HKA.out with rfl | ⟨b, off, e, h⟩
        · simp at hlt
        · refine ⟨b, off, e, fun X hX => keep_cell hX ?_⟩
          have := h i hlt
          rw [List.getD_eq_getElem?_getD, List.getElem?_eq_getElem hlt] at this
          exact this
      generalize ks[i] = kk at *
      generalize hOA : ((ks.take i).flatMap fun kk => edL h kk [] l) = OA at *
      obtain ⟨gk, ok, rfl, hkc⟩ := HKC.out
      have HK := Lib.hid hkc
      have hii : (i : Int) < (ks.length : Int) := by omega
      have hin : (0 : Int) ≤ (i : Int) := Int.natCast_nonneg _
      have S1 : Hid (LnF w1 wr u3 (OA ++ edL h kk [] (l.take 0))) := by
        have : OA ++ edL h kk [] (l.take 0) = OA := by rw [List.take_zero]; exact List.append_nil _
        rw [this]; exact st.out
      clear hkc HKC st
      go_wp2
      go_loopw [3, 6] (fun v m wx => ∃ k : Nat, m = .int .i64 (k : Int) ∧ k ≤ l.length ∧ Hid (LnF w1 wx v (OA ++ edL h kk [] (l.take k)))) (fun _ m _ => l.length - (intOf m).toNat)
      case atStart => exact ⟨0, rfl, Nat.zero_le _, S1⟩
      case round =>
        obtain ⟨k, rfl, hk, sm⟩ := hrel
        rename World => wx
        clear S1
        have HBX := Lib.hid (HBK.out.trans (sm.out.bw.mono HBK.out.size))
        obtain ⟨t0, t1⟩ := HT.out wx HBX.out
        by_cases hlk : k < l.length
        · have HLK := Lib.hid hlk
          obtain ⟨ba, oa, rfl, k0, k1, k2⟩ := (HD.out.below HBX.out).cell hlk
          have htk : l.take (k + 1) = l.take k ++ [l[k]] := List.take_succ_eq_append_getElem hlk
          have HES : Hid (edL h kk [] (l.take (k + 1)) = edL h kk [] (l.take k) ++ if l[k].k = kk then brE l[k] h ++ brE l[k] (l.take k) else []) := by
            show edL h kk [] (l.take (k + 1)) = _
            rw [htk, edL_snoc, List.nil_append]
          have HE1L : Hid ((OA ++ edL h kk [] (l.take k)).length ≤ 2020000) := by
            have h1 := edL_len h kk (N := 100) HHL.out.1 (l.take k) [] (by rw [List.length_take, List.length_nil]; have := HHL.out.2; omega)
            rw [List.length_take] at h1
            have h2 : min k l.length ≤ 100 := by have := HHL.out.2; omega
            have h3 := Nat.mul_le_mul_right 200 h2
            have := HLEN.out
            show _ ≤ _
            rw [List.length_append]; omega
          have hki : (k : Int) < (l.length : Int) := by omega
          have hkn : (0 : Int) ≤ (k : Int) := Int.natCast_nonneg _
          clear htk
          generalize l[k] = c at *
          obtain ⟨c2k, cw, co⟩ := c
          replace k0 : wx.cell? ⟨ba, oa + k * 3, none⟩ = some (.int .i64 co) := k0
          replace k1 : wx.cell? ⟨ba, oa + k * 3 + 1, none⟩ = some (.string c2k) := k1
          replace k2 : wx.cell? ⟨ba, oa + k * 3 + 2, none⟩ = some (.bool cw) := k2
          replace HES : Hid (edL h kk [] (l.take (k + 1)) = edL h kk [] (l.take k) ++ if c2k = kk then brE ⟨c2k, cw, co⟩ h ++ brE ⟨c2k, cw, co⟩ (l.take k) else []) := HES
          have hbc : Below wx.heap.size wx (wx.alloc (.cells #[.int .i64 co, .string c2k, .bool cw] 67)) := (Below.refl _ _).alloc (Nat.le_refl _) _
          obtain ⟨g0, g1, g2⟩ : (wx.alloc (.cells #[.int .i64 co, .string c2k, .bool cw] 67)).cell? ⟨wx.heap.size, 0, none⟩ = some (.int .i64 co) ∧ (wx.alloc (.cells #[.int .i64 co, .string c2k, .bool cw] 67)).cell? ⟨wx.heap.size, 1, none⟩ = some (.string c2k) ∧ (wx.alloc (.cells #[.int .i64 co, .string c2k, .bool cw] 67)).cell? ⟨wx.heap.size, 2, none⟩ = some (.bool cw) := ⟨new_cell rfl rfl, new_cell rfl rfl, new_cell rfl rfl⟩
          have SC := Lib.hid (sm.out.below hbc)
          have HCP : Hid (CP (wx.alloc (.cells #[.int .i64 co, .string c2k, .bool cw] 67)) wx.heap.size u3 ⟨c2k, cw, co⟩) := ⟨⟨g0, g1, g2⟩, fun g e => Nat.ne_of_lt (World.ownsRow.lt sm.out.row g e).2, by rw [World.size_alloc]; omega⟩
          clear hbc sm
          go_upto_region 10 with fail
          generalize wx.alloc (.cells #[.int .i64 co, .string c2k, .bool cw] 67) = wc at *
          generalize hM : wx.heap.size = M at HCP g0 g1 g2 ⊢
          clear k0 k1 k2 t0 t1 hM HBX
          have c1 := HK.out wc SC.out.bw
          by_cases hck : c2k = kk
          · subst hck
            have HE2 : Hid (edL h c2k [] (l.take (k + 1)) = edL h c2k [] (l.take k) ++ (brE ⟨c2k, cw, co⟩ h ++ brE ⟨c2k, cw, co⟩ (l.take k))) := HES.out.trans (by rw [if_pos rfl])
            clear HES
            go_quiet (fail)
            have HBQ := Lib.hid (below_drewN (Below.refl wc.heap.size wc) nq)
            have SQ := Lib.hid (SC.out.below HBQ.out)
            have HCQ := Lib.hid (HCP.out.below HBQ.out)
            clear SC g0 g1 g2 c1 HCP HBQ
            generalize wc.drewN nq = wq at *
            have HEA : Hid (∀ x : List (Int × Int), x = (OA ++ edL h c2k [] (l.take k) ++ brE ⟨c2k, cw, co⟩ h) ++ brE ⟨c2k, cw, co⟩ (l.take k) → x = OA ++ edL h c2k [] (l.take (k + 1))) := fun x e => by rw [e, HE2.out]; simp
            generalize OA ++ edL h c2k [] (l.take k) = E1 at *
            have S2 : Hid (LnF w1 wq u3 (E1 ++ brE ⟨c2k, cw, co⟩ (h.take 0))) := by
              have : E1 ++ brE ⟨c2k, cw, co⟩ (h.take 0) = E1 := by rw [List.take_zero]; exact List.append_nil _
              rw [this]; exact SQ.out
            clear SQ HE2
            go_wp2
            go_loopw [3, 8] (fun v m wy => ∃ j : Nat, m = .int .i64 (j : Int) ∧ j ≤ h.length ∧ Hid (LnF w1 wy v (E1 ++ brE ⟨c2k, cw, co⟩ (h.take j))) ∧ Hid (CP wy M v ⟨c2k, cw, co⟩)) (fun _ m _ => h.length - (intOf m).toNat)
            case atStart => exact ⟨0, rfl, Nat.zero_le _, S2, HCQ⟩
            case round =>
              obtain ⟨j, rfl, hj, si, hbi⟩ := hrel
              rename World => wy
              clear S2
              have HBY := Lib.hid (HBK.out.trans (si.out.bw.mono HBK.out.size))
              obtain ⟨t0, t1⟩ := HT.out wy HBY.out
              by_cases hlj : j < h.length
              · have hji : (j : Int) < (h.length : Int) := by omega
                obtain ⟨bh, oh, rfl, k0, k1, k2⟩ := (HA.out.below HBY.out).cell hlj
                have htj : h.take (j + 1) = h.take j ++ [h[j]] := List.take_succ_eq_append_getElem hlj
                have HLL : Hid ((h.take j).length ≤ 100) := by
                  show _ ≤ _
                  rw [List.length_take]; have := HHL.out.1; omega
                have HLJ := Lib.hid hlj
                have HBS : Hid (brE ⟨c2k, cw, co⟩ (h.take (j + 1)) = brE ⟨c2k, cw, co⟩ (h.take j) ++ if barB ⟨c2k, cw, co⟩ h[j] = true then [(co, h[j].ow)] else []) := by
                  show brE _ _ = _
                  rw [htj, brE_snoc]
                  all_goals rfl
                have HEL : Hid ((E1 ++ brE ⟨c2k, cw, co⟩ (h.take j)).length ≤ 3000000) := by
                  have h2 := brE_len ⟨c2k, cw, co⟩ (h.take j)
                  have := HLL.out
                  have := HE1L.out
                  show _ ≤ _
                  rw [List.length_append]; omega
                clear htj
                generalize h[j] = x at *
                obtain ⟨xk, xw, xo⟩ := x
                replace k0 : wy.cell? ⟨bh, oh + j * 3, none⟩ = some (.int .i64 xo) := k0
                replace k1 : wy.cell? ⟨bh, oh + j * 3 + 1, none⟩ = some (.string xk) := k1
                replace k2 : wy.cell? ⟨bh, oh + j * 3 + 2, none⟩ = some (.bool xw) := k2
                replace HBS : Hid (brE ⟨c2k, cw, co⟩ (h.take (j + 1)) = brE ⟨c2k, cw, co⟩ (h.take j) ++ if barB ⟨c2k, cw, co⟩ ⟨xk, xw, xo⟩ = true then [(co, xo)] else []) := HBS
                have hba : Below wy.heap.size wy (wy.alloc (.cells #[.int .i64 xo, .string xk, .bool xw] 67)) := (Below.refl _ _).alloc (Nat.le_refl _) _
                have SI := Lib.hid (si.out.below hba)
                have HBI2 := Lib.hid (hbi.out.below hba)
                have x0 : (wy.alloc (.cells #[.int .i64 xo, .string xk, .bool xw] 67)).cell? ⟨wy.heap.size, 0, none⟩ = some (.int .i64 xo) := new_cell rfl rfl
                have x1 : (wy.alloc (.cells #[.int .i64 xo, .string xk, .bool xw] 67)).cell? ⟨wy.heap.size, 1, none⟩ = some (.string xk) := new_cell rfl rfl
                have x2 : (wy.alloc (.cells #[.int .i64 xo, .string xk, .bool xw] 67)).cell? ⟨wy.heap.size, 2, none⟩ = some (.bool xw) := new_cell rfl rfl
                clear hba si hbi
                go_upto_region 15 with fail
                obtain ⟨g0, g1, g2⟩ := HBI2.out.c
                generalize wy.alloc (.cells #[.int .i64 xo, .string xk, .bool xw] 67) = wz at *
                generalize hDk : wy.heap.size = Dk at x0 x1 x2 ⊢
                clear k0 k1 k2 t0 t1 HBY hDk
                have HNO : Hid (barB ⟨c2k, cw, co⟩ ⟨xk, xw, xo⟩ = false → LnF w1 wz u3 (E1 ++ brE ⟨c2k, cw, co⟩ (h.take (j + 1)))) := fun q => by
                  have e : brE ⟨c2k, cw, co⟩ (h.take (j + 1)) = brE ⟨c2k, cw, co⟩ (h.take j) := by rw [HBS.out, q, if_neg (by decide), List.append_nil]
                  rw [e]; exact SI.out
                have HYE : Hid (barB ⟨c2k, cw, co⟩ ⟨xk, xw, xo⟩ = true → brE ⟨c2k, cw, co⟩ (h.take (j + 1)) = brE ⟨c2k, cw, co⟩ (h.take j) ++ [(co, xo)]) := fun q => by rw [HBS.out, if_pos q]
                clear HBS
                by_cases hk2 : xk = c2k
                · by_cases ho : xo = co
                  · have HN := Lib.hid (HNO.out (by unfold barB clash; simp [ho]))
                    subst hk2 ho
                    clear HNO HYE SI
                    go_wp2
                    go_roundw
                    case rel => exact ⟨j + 1, by go_num, HLJ.out, HN, HBI2⟩
                    case measure => simp [intOf]; have := HLJ.out; omega
                  · cases xw with
                    | true =>
                      have HE := Lib.hid (HYE.out (by unfold barB clash; simp [hk2, ho]))
                      subst hk2
                      clear HNO HYE
                      go_upto_region 16 with fail
                      have hbe : Below wz.heap.size wz (wz.alloc (.cells #[.int .i64 co, .int .i64 xo] 71)) := (Below.refl _ _).alloc (Nat.le_refl _) _
                      have S7 := Lib.hid (SI.out.below hbe)
                      have HBI3 := Lib.hid (HBI2.out.below hbe)
                      have hk0 : (wz.alloc (.cells #[.int .i64 co, .int .i64 xo] 71)).cell? ((⟨wz.heap.size, 0, none⟩ : Addr).add 0) = some (.int .i64 co) := new_cell rfl rfl
                      have hk1 : (wz.alloc (.cells #[.int .i64 co, .int .i64 xo] 71)).cell? ((⟨wz.heap.size, 0, none⟩ : Addr).add 1) = some (.int .i64 xo) := new_cell rfl rfl
                      have hsB := S7.out.bw.size
                      have hlr : (E1 ++ brE ⟨xk, cw, co⟩ (h.take j)).length ≤ 1000000000 := by have := HEL.out; omega
                      clear hbe SI
                      go_wp2_with (at_builtin; refine append_f rfl _ _ rfl w1.heap.size u3 (E1 ++ brE ⟨xk, cw, co⟩ (h.take j)) ⟨wz.heap.size, 0, none⟩ (co, xo) 1 rfl S7.out.row rfl hk0 hk1 hlr hsB ?_)
                      intro v8 w8 hr8 hg8 ho8
                      have hr9 : RowF w8 w1.heap.size v8 (E1 ++ brE ⟨xk, cw, co⟩ (h.take (j + 1))) := by
                        rw [HE.out]
                        simpa using hr8
                      have S8 := Lib.hid (S7.out.put hr9 hg8)
                      have HB8 := Lib.hid (HBI3.out.put hg8 (by rw [World.size_alloc]; exact ho8))
                      clear hr8 hr9 hg8 ho8 S7 hsB hlr hk0 hk1
                      go_wp2
                      go_roundw
                      case rel => exact ⟨j + 1, by go_num, HLJ.out, S8, HB8⟩
                      case measure => simp [intOf]; have := HLJ.out; omega
                    | false =>
                      cases cw with
                      | true =>
                        have HE := Lib.hid (HYE.out (by unfold barB clash; simp [hk2, ho]))
                        subst hk2
                        clear HNO HYE
                        go_upto_region 16 with fail
                        have hbe : Below wz.heap.size wz (wz.alloc (.cells #[.int .i64 co, .int .i64 xo] 71)) := (Below.refl _ _).alloc (Nat.le_refl _) _
                        have S7 := Lib.hid (SI.out.below hbe)
                        have HBI3 := Lib.hid (HBI2.out.below hbe)
                        have hk0 : (wz.alloc (.cells #[.int .i64 co, .int .i64 xo] 71)).cell? ((⟨wz.heap.size, 0, none⟩ : Addr).add 0) = some (.int .i64 co) := new_cell rfl rfl
                        have hk1 : (wz.alloc (.cells #[.int .i64 co, .int .i64 xo] 71)).cell? ((⟨wz.heap.size, 0, none⟩ : Addr).add 1) = some (.int .i64 xo) := new_cell rfl rfl
                        have hsB := S7.out.bw.size
                        have hlr : (E1 ++ brE ⟨xk, true, co⟩ (h.take j)).length ≤ 1000000000 := by have := HEL.out; omega
                        clear hbe SI
                        go_wp2_with (at_builtin; refine append_f rfl _ _ rfl w1.heap.size u3 (E1 ++ brE ⟨xk, true, co⟩ (h.take j)) ⟨wz.heap.size, 0, none⟩ (co, xo) 1 rfl S7.out.row rfl hk0 hk1 hlr hsB ?_)
                        intro v8 w8 hr8 hg8 ho8
                        have hr9 : RowF w8 w1.heap.size v8 (E1 ++ brE ⟨xk, true, co⟩ (h.take (j + 1))) := by
                          rw [HE.out]
                          simpa using hr8
                        have S8 := Lib.hid (S7.out.put hr9 hg8)
                        have HB8 := Lib.hid (HBI3.out.put hg8 (by rw [World.size_alloc]; exact ho8))
                        clear hr8 hr9 hg8 ho8 S7 hsB hlr hk0 hk1
                        go_wp2
                        go_roundw
                        case rel => exact ⟨j + 1, by go_num, HLJ.out, S8, HB8⟩
                        case measure => simp [intOf]; have := HLJ.out; omega
                      | false =>
                        have HN := Lib.hid (HNO.out (by unfold barB clash; simp))
                        subst hk2
                        clear HNO HYE SI
                        go_wp2
                        go_roundw
                        case rel => exact ⟨j + 1, by go_num, HLJ.out, HN, HBI2⟩
                        case measure => simp [intOf]; have := HLJ.out; omega
                · have HN := Lib.hid (HNO.out (by unfold barB clash; simp [hk2]))
                  have hne := str_ne14 hk2
                  clear HNO HYE SI
                  go_wp2
                  go_roundw
                  case rel => exact ⟨j + 1, by go_num, HLJ.out, HN, HBI2⟩
                  case measure => simp [intOf]; have := HLJ.out; omega
              · obtain rfl : j = h.length := by omega
                have h1 := si.out
                rw [List.take_length] at h1
                have HE3L : Hid ((E1 ++ brE ⟨c2k, cw, co⟩ h).length ≤ 2020100) := by
                  have h2 := brE_len ⟨c2k, cw, co⟩ h
                  have := HE1L.out
                  have := HHL.out.1
                  show _ ≤ _
                  rw [List.length_append]; omega
                generalize E1 ++ brE ⟨c2k, cw, co⟩ h = E3 at *
                have S3 : Hid (LnF w1 wy u3 (E3 ++ brE ⟨c2k, cw, co⟩ ((l.take k).take 0))) := by
                  have : E3 ++ brE ⟨c2k, cw, co⟩ ((l.take k).take 0) = E3 := by rw [List.take_zero]; exact List.append_nil _
                  rw [this]; exact h1
                have HBI := hbi
                clear h1 si hbi
                go_wp2
                go_loopw [3, 10] (fun v m wz => ∃ j : Nat, m = .int .i64 (j : Int) ∧ j ≤ k ∧ Hid (LnF w1 wz v (E3 ++ brE ⟨c2k, cw, co⟩ ((l.take k).take j))) ∧ Hid (CP wz M v ⟨c2k, cw, co⟩)) (fun _ m _ => k - (intOf m).toNat)
                case atStart => exact ⟨0, rfl, Nat.zero_le _, S3, HBI⟩
                case round =>
                  obtain ⟨j, rfl, hj, si, hbi⟩ := hrel
                  rename World => wy
                  clear S3 t0 t1
                  have HBY := Lib.hid (HBK.out.trans (si.out.bw.mono HBK.out.size))
                  obtain ⟨t0, t1⟩ := HT.out wy HBY.out
                  by_cases hlj : j < k
                  · have hji : (j : Int) < (k : Int) := by omega
                    have hjl : j < l.length := Nat.lt_trans hlj HLK.out
                    have hjli : (j : Int) < (l.length : Int) := by omega
                    obtain ⟨b9, o9, e9, k0, k1, k2⟩ := (HD.out.below HBY.out).cell hjl
                    injection e9 with e9
                    injection e9 with e91 e92
                    subst e91 e92
                    have hlj2 : j < (l.take k).length := by rw [List.length_take]; omega
                    have htj : (l.take k).take (j + 1) = (l.take k).take j ++ [l[j]] := by
                      rw [List.take_succ_eq_append_getElem hlj2, List.getElem_take]
                    have HLL : Hid (((l.take k).take j).length ≤ 100) := by
                      show _ ≤ _
                      rw [List.length_take, List.length_take]; have := HHL.out.2; omega
                    have HLJ := Lib.hid hlj
                    have HBS : Hid (brE ⟨c2k, cw, co⟩ ((l.take k).take (j + 1)) = brE ⟨c2k, cw, co⟩ ((l.take k).take j) ++ if barB ⟨c2k, cw, co⟩ l[j] = true then [(co, l[j].ow)] else []) := by
                      show brE _ _ = _
                      rw [htj, brE_snoc]
                      all_goals rfl
                    have HEL : Hid ((E3 ++ brE ⟨c2k, cw, co⟩ ((l.take k).take j)).length ≤ 3000000) := by
                      have h2 := brE_len ⟨c2k, cw, co⟩ ((l.take k).take j)
                      have := HLL.out
                      have := HE3L.out
                      show _ ≤ _
                      rw [List.length_append]; omega
                    clear htj
                    generalize l[j] = x at *
                    obtain ⟨xk, xw, xo⟩ := x
                    replace k0 : wy.cell? ⟨ba, oa + j * 3, none⟩ = some (.int .i64 xo) := k0
                    replace k1 : wy.cell? ⟨ba, oa + j * 3 + 1, none⟩ = some (.string xk) := k1
                    replace k2 : wy.cell? ⟨ba, oa + j * 3 + 2, none⟩ = some (.bool xw) := k2
                    replace HBS : Hid (brE ⟨c2k, cw, co⟩ ((l.take k).take (j + 1)) = brE ⟨c2k, cw, co⟩ ((l.take k).take j) ++ if barB ⟨c2k, cw, co⟩ ⟨xk, xw, xo⟩ = true then [(co, xo)] else []) := HBS
                    have hba : Below wy.heap.size wy (wy.alloc (.cells #[.int .i64 xo, .string xk, .bool xw] 67)) := (Below.refl _ _).alloc (Nat.le_refl _) _
                    have SI := Lib.hid (si.out.below hba)
                    have HBI2 := Lib.hid (hbi.out.below hba)
                    have x0 : (wy.alloc (.cells #[.int .i64 xo, .string xk, .bool xw] 67)).cell? ⟨wy.heap.size, 0, none⟩ = some (.int .i64 xo) := new_cell rfl rfl
                    have x1 : (wy.alloc (.cells #[.int .i64 xo, .string xk, .bool xw] 67)).cell? ⟨wy.heap.size, 1, none⟩ = some (.string xk) := new_cell rfl rfl
                    have x2 : (wy.alloc (.cells #[.int .i64 xo, .string xk, .bool xw] 67)).cell? ⟨wy.heap.size, 2, none⟩ = some (.bool xw) := new_cell rfl rfl
                    clear hba si hbi
                    go_upto_region 21 with fail
                    obtain ⟨g0, g1, g2⟩ := HBI2.out.c
                    generalize wy.alloc (.cells #[.int .i64 xo, .string xk, .bool xw] 67) = wz at *
                    generalize hDk : wy.heap.size = Dk at x0 x1 x2 ⊢
                    clear k0 k1 k2 t0 t1 HBY hDk
                    have HNO : Hid (barB ⟨c2k, cw, co⟩ ⟨xk, xw, xo⟩ = false → LnF w1 wz u3 (E3 ++ brE ⟨c2k, cw, co⟩ ((l.take k).take (j + 1)))) := fun q => by
                      have e : brE ⟨c2k, cw, co⟩ ((l.take k).take (j + 1)) = brE ⟨c2k, cw, co⟩ ((l.take k).take j) := by rw [HBS.out, q, if_neg (by decide), List.append_nil]
                      rw [e]; exact SI.out
                    have HYE : Hid (barB ⟨c2k, cw, co⟩ ⟨xk, xw, xo⟩ = true → brE ⟨c2k, cw, co⟩ ((l.take k).take (j + 1)) = brE ⟨c2k, cw, co⟩ ((l.take k).take j) ++ [(co, xo)]) := fun q => by rw [HBS.out, if_pos q]
                    clear HBS
                    by_cases hk2 : xk = c2k
                    · by_cases ho : xo = co
                      · have HN := Lib.hid (HNO.out (by unfold barB clash; simp [ho]))
                        subst hk2 ho
                        clear HNO HYE SI
                        go_wp2
                        go_roundw
                        case rel => exact ⟨j + 1, by go_num, HLJ.out, HN, HBI2⟩
                        case measure => simp [intOf]; have := HLJ.out; omega
                      · cases xw with
                        | true =>
                          have HE := Lib.hid (HYE.out (by unfold barB clash; simp [hk2, ho]))
                          subst hk2
                          clear HNO HYE
                          go_upto_region 22 with fail
                          have hbe : Below wz.heap.size wz (wz.alloc (.cells #[.int .i64 co, .int .i64 xo] 71)) := (Below.refl _ _).alloc (Nat.le_refl _) _
                          have S7 := Lib.hid (SI.out.below hbe)
                          have HBI3 := Lib.hid (HBI2.out.below hbe)
                          have hk0 : (wz.alloc (.cells #[.int .i64 co, .int .i64 xo] 71)).cell? ((⟨wz.heap.size, 0, none⟩ : Addr).add 0) = some (.int .i64 co) := new_cell rfl rfl
                          have hk1 : (wz.alloc (.cells #[.int .i64 co, .int .i64 xo] 71)).cell? ((⟨wz.heap.size, 0, none⟩ : Addr).add 1) = some (.int .i64 xo) := new_cell rfl rfl
                          have hsB := S7.out.bw.size
                          have hlr : (E3 ++ brE ⟨xk, cw, co⟩ ((l.take k).take j)).length ≤ 1000000000 := by have := HEL.out; omega
                          clear hbe SI
                          go_wp2_with (at_builtin; refine append_f rfl _ _ rfl w1.heap.size u3 (E3 ++ brE ⟨xk, cw, co⟩ ((l.take k).take j)) ⟨wz.heap.size, 0, none⟩ (co, xo) 1 rfl S7.out.row rfl hk0 hk1 hlr hsB ?_)
                          intro v8 w8 hr8 hg8 ho8
                          have hr9 : RowF w8 w1.heap.size v8 (E3 ++ brE ⟨xk, cw, co⟩ ((l.take k).take (j + 1))) := by
                            rw [HE.out]
                            simpa using hr8
                          have S8 := Lib.hid (S7.out.put hr9 hg8)
                          have HB8 := Lib.hid (HBI3.out.put hg8 (by rw [World.size_alloc]; exact ho8))
                          clear hr8 hr9 hg8 ho8 S7 hsB hlr hk0 hk1
                          go_wp2
                          go_roundw
                          case rel => exact ⟨j + 1, by go_num, HLJ.out, S8, HB8⟩
                          case measure => simp [intOf]; have := HLJ.out; omega
                        | false =>
                          cases cw with
                          | true =>
                            have HE := Lib.hid (HYE.out (by unfold barB clash; simp [hk2, ho]))
                            subst hk2
                            clear HNO HYE
                            go_upto_region 22 with fail
                            have hbe : Below wz.heap.size wz (wz.alloc (.cells #[.int .i64 co, .int .i64 xo] 71)) := (Below.refl _ _).alloc (Nat.le_refl _) _
                            have S7 := Lib.hid (SI.out.below hbe)
                            have HBI3 := Lib.hid (HBI2.out.below hbe)
                            have hk0 : (wz.alloc (.cells #[.int .i64 co, .int .i64 xo] 71)).cell? ((⟨wz.heap.size, 0, none⟩ : Addr).add 0) = some (.int .i64 co) := new_cell rfl rfl
                            have hk1 : (wz.alloc (.cells #[.int .i64 co, .int .i64 xo] 71)).cell? ((⟨wz.heap.size, 0, none⟩ : Addr).add 1) = some (.int .i64 xo) := new_cell rfl rfl
                            have hsB := S7.out.bw.size
                            have hlr : (E3 ++ brE ⟨xk, true, co⟩ ((l.take k).take j)).length ≤ 1000000000 := by have := HEL.out; omega
                            clear hbe SI
                            go_wp2_with (at_builtin; refine append_f rfl _ _ rfl w1.heap.size u3 (E3 ++ brE ⟨xk, true, co⟩ ((l.take k).take j)) ⟨wz.heap.size, 0, none⟩ (co, xo) 1 rfl S7.out.row rfl hk0 hk1 hlr hsB ?_)
                            intro v8 w8 hr8 hg8 ho8
                            have hr9 : RowF w8 w1.heap.size v8 (E3 ++ brE ⟨xk, true, co⟩ ((l.take k).take (j + 1))) := by
                              rw [HE.out]
                              simpa using hr8
                            have S8 := Lib.hid (S7.out.put hr9 hg8)
                            have HB8 := Lib.hid (HBI3.out.put hg8 (by rw [World.size_alloc]; exact ho8))
                            clear hr8 hr9 hg8 ho8 S7 hsB hlr hk0 hk1
                            go_wp2
                            go_roundw
                            case rel => exact ⟨j + 1, by go_num, HLJ.out, S8, HB8⟩
                            case measure => simp [intOf]; have := HLJ.out; omega
                          | false =>
                            have HN := Lib.hid (HNO.out (by unfold barB clash; simp))
                            subst hk2
                            clear HNO HYE SI
                            go_wp2
                            go_roundw
                            case rel => exact ⟨j + 1, by go_num, HLJ.out, HN, HBI2⟩
                            case measure => simp [intOf]; have := HLJ.out; omega
                    · have HN := Lib.hid (HNO.out (by unfold barB clash; simp [hk2]))
                      have hne := str_ne14 hk2
                      clear HNO HYE SI
                      go_wp2
                      go_roundw
                      case rel => exact ⟨j + 1, by go_num, HLJ.out, HN, HBI2⟩
                      case measure => simp [intOf]; have := HLJ.out; omega
                  · obtain rfl : j = k := by omega
                    have h1 := si.out
                    rw [List.take_take, Nat.min_self] at h1
                    have SF : Hid (LnF w1 wy u3 (OA ++ edL h c2k [] (l.take (j + 1)))) := by rw [← HEA.out _ rfl]; exact h1
                    clear h1 si
                    go_wp2
                    go_roundw
                    case rel => exact ⟨j + 1, by go_num, HLK.out, SF⟩
                    case measure => simp [intOf]; have := HLK.out; omega
          · have hne := str_ne14 hck
            have HE2 : Hid (OA ++ edL h kk [] (l.take (k + 1)) = OA ++ edL h kk [] (l.take k)) := by
              show OA ++ edL h kk [] (l.take (k + 1)) = _
              rw [HES.out, if_neg hck, List.append_nil]
            have SQ : Hid (∀ n, LnF w1 (wc.drewN n) u3 (OA ++ edL h kk [] (l.take (k + 1)))) := fun n => by rw [HE2.out]; exact SC.out.below (below_drewN (Below.refl _ _) n)
            clear HES HE2 SC
            go_quiet (fail)
            go_wp2
            go_roundw
            case rel => exact ⟨k + 1, by go_num, HLK.out, SQ.out _⟩
            case measure => simp [intOf]; have := HLK.out; omega
        · obtain rfl : k = l.length := by omega
          have h1 := sm.out
          rw [List.take_length] at h1
          have SF : Hid (LnF w1 wx u3 ((ks.take (i + 1)).flatMap fun kk => edL h kk [] l)) := by rw [HSN.out]; exact h1
          clear h1 sm
          go_wp2
          go_roundw
          case rel => exact ⟨i + 1, by go_num, HLT.out, SF⟩
          case measure => simp [intOf]; have := HLT.out; omega
    · obtain rfl : i = ks.length := by omega
      have h1 := st.out
      rw [List.take_length, ← HG.out] at h1
      have HP := Lib.hid (h1.row.mono (B' := W.heap.size) (Nat.le_trans HB.out.size HBK.out.size))
      have HQ := Lib.hid (HB.out.trans ((HBK.out.trans (h1.bw.mono HBK.out.size)).mono HB.out.size))
      clear h1 st
      go_wp2
      go_ret
      exact ⟨_, rfl, by first | exact HP.out | (rw [hC2.out]; exact HP.out), by first | exact HQ.out | (rw [hC2.out]; exact HQ.out)⟩
end
end Go.Proofs.Ytjojempjmpaaaaa
