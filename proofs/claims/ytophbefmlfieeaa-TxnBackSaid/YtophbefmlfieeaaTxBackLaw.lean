/-
  TxnBack: the walk.
-/
import Derived.Test.YtophbefmlfieeaaTxBackC
namespace Go.Proofs.Ytophbefmlfieeaa
open Go.RowKit
/-- A table behind k records. -/
structure BackS (w1 : World) (t M k : Nat) (X : World) : Prop where
  ex : ∃ n m, TbAt X w1.heap.size t M n m ∧ n ≤ k ∧ BackI (absM m) k
  below : Below w1.heap.size w1 X
theorem BackS.next {w1 X : World} {t M k : Nat} (h : BackS w1 t M k X) (hk : k ≤ 1000) (r : Rc) (hi : (Lit.int .i64 r.t).wf = true) (hs : Short r) :
    Calls Try.prog 11 #[.pointer (some ⟨t, 0, none⟩), .int .i64 0, .slice (some ⟨X.heap.size, 0, none⟩) 1 1] (X.alloc (.cells #[.int .i64 r.k, .int .i64 r.g, .int .i64 r.t, .int .i64 r.p, .int .i64 r.pg, .string r.key, .bool r.hb, .string r.sb, .bool r.ha, .string r.sa, .int .i64 r.u] 38)) fun x w' => (∃ e, x = .returned (.int .i64 e)) ∧ BackS w1 t M (k + 1) w' := by
  obtain ⟨⟨n, m, hT, hn, hI⟩, hB⟩ := h
  have hba := (Below.refl X.heap.size X).alloc (Nat.le_refl _) (.cells #[.int .i64 r.k, .int .i64 r.g, .int .i64 r.t, .int .i64 r.p, .int .i64 r.pg, .string r.key, .bool r.hb, .string r.sb, .bool r.ha, .string r.sa, .int .i64 r.u] 38)
  have hT2 := hT.below hba
  refine (tnote_one hT2 0 r (R11.new X r 38) (fun j c => by
    have := (hT.ownLt c).1
    omega) (by rw [World.size_alloc]; omega) hi hs.1 hs.2.1 hs.2.2 (fun j d hd => ⟨by have := (hI j d hd).cl; omega, by have := (hI j d hd).pl; omega⟩) (by unfold maxLen; omega)).mono ?_
  rintro x w' ⟨rfl, n', m', hn', hp, hab⟩
  refine ⟨⟨_, rfl⟩, ⟨n', m', hp.1, by omega, by rw [hab]; exact noteA_back hs hI⟩, ?_⟩
  exact (hB.trans (hba.mono hB.size)).trans (hp.2.1.below (Nat.le_trans hB.size hba.size) (fun j c => (hT2.ownLt c).2))
theorem rcs_at {X : World} {a : Option Addr} {l : List Rc} (h : RcsAt X a l) {k : Nat} (hk : k < l.length) : ∃ b off, a = some ⟨b, off, none⟩ ∧ X.cell? ⟨b, off + k * 11, none⟩ = some (.int .i64 (l.getD k noRc).k) ∧ X.cell? ⟨b, off + k * 11 + 1, none⟩ = some (.int .i64 (l.getD k noRc).g) ∧ X.cell? ⟨b, off + k * 11 + 2, none⟩ = some (.int .i64 (l.getD k noRc).t) ∧ X.cell? ⟨b, off + k * 11 + 3, none⟩ = some (.int .i64 (l.getD k noRc).p) ∧ X.cell? ⟨b, off + k * 11 + 4, none⟩ = some (.int .i64 (l.getD k noRc).pg) ∧ X.cell? ⟨b, off + k * 11 + 5, none⟩ = some (.string (l.getD k noRc).key) ∧ X.cell? ⟨b, off + k * 11 + 6, none⟩ = some (.bool (l.getD k noRc).hb) ∧ X.cell? ⟨b, off + k * 11 + 7, none⟩ = some (.string (l.getD k noRc).sb) ∧ X.cell? ⟨b, off + k * 11 + 8, none⟩ = some (.bool (l.getD k noRc).ha) ∧ X.cell? ⟨b, off + k * 11 + 9, none⟩ = some (.string (l.getD k noRc).sa) ∧ X.cell? ⟨b, off + k * 11 + 10, none⟩ = some (.int .i64 (l.getD k noRc).u) := by
  rcases h with h | ⟨b, off, e, hc⟩
  · rw [h] at hk; simp at hk
  · exact ⟨b, off, e, hc k hk⟩
/-- What holds while the changes are taken back, behind j of them. -/
structure BkL (w1 : World) (t M S : Nat) (ba : Option Addr) (bc : Nat) (lb : List Rc) (bx : Nat) (vs : List Value) (id no : Int) (D : KS) (p1 : Int) (ch j : Nat) (X : World) : Prop where
  ex : ∃ n m, TbAt X w1.heap.size t M n m ∧ n ≤ 60 + j ∧ BkAt (absM m) id no D p1 ch j ∧ (∀ g, (Value.slice ba lb.length bc).ownBlock = some g → ¬ TbOwn M m g) ∧ ¬ TbOwn M m bx
  row : RecR X S (.slice ba lb.length bc) lb
  box : BoxL X bx vs
  below : Below w1.heap.size w1 X
section
variable {w1 X Y : World} {t M S : Nat} {ba : Option Addr} {bc : Nat} {lb : List Rc} {bx : Nat} {vs : List Value} {id no : Int} {D : KS} {p1 : Int} {ch j : Nat}
theorem BkL.keep (h : BkL w1 t M S ba bc lb bx vs id no D p1 ch j X) (hb : Below X.heap.size X Y) : BkL w1 t M S ba bc lb bx vs id no D p1 ch j Y := by
  obtain ⟨⟨n, m, h1, h2⟩, h3, h4, h5⟩ := h
  exact ⟨⟨n, m, h1.below hb, h2⟩, h3.below hb, h4.below hb, h5.trans (hb.mono h5.size)⟩
theorem BkL.next (h : BkL w1 t M S ba bc lb bx vs id no D p1 ch j X) (hD : BackK id D 60) (hch : ch ≤ D.cl.length) (hlast : D.last ≤ 2305843009213693952) (hj : j < D.cl.length - ch) (hid : (Lit.int .i64 id).wf = true) (r : Rc) (hr : r = bkRc D id (D.cl.getD (D.cl.length - 1 - j) noRc) j) :
    Calls Try.prog 11 #[.pointer (some ⟨t, 0, none⟩), .int .i64 0, .slice (some ⟨X.heap.size, 0, none⟩) 1 1] (X.alloc (.cells #[.int .i64 r.k, .int .i64 r.g, .int .i64 r.t, .int .i64 r.p, .int .i64 r.pg, .string r.key, .bool r.hb, .string r.sb, .bool r.ha, .string r.sa, .int .i64 r.u] 38)) fun x w' => x = .returned (.int .i64 0) ∧ BkL w1 t M S ba bc lb bx vs id no D p1 ch (j + 1) w' := by
  obtain ⟨⟨n, m, hT, hn, hB, hg, hx⟩, h3, h4, h5⟩ := h
  have hba := (Below.refl X.heap.size X).alloc (Nat.le_refl _) (.cells #[.int .i64 r.k, .int .i64 r.g, .int .i64 r.t, .int .i64 r.p, .int .i64 r.pg, .string r.key, .bool r.hb, .string r.sb, .bool r.ha, .string r.sa, .int .i64 r.u] 38)
  have hT2 := hT.below hba
  have hcl := hD.cl
  have hsh : Short (D.cl.getD (D.cl.length - 1 - j) noRc) := by
    have hlt : D.cl.length - 1 - j < D.cl.length := by omega
    refine (hD.chg _ ?_).2.2.2.2
    rw [List.getD_eq_getElem?_getD, List.getElem?_eq_getElem hlt]
    exact List.getElem_mem hlt
  have hst := bk_step hB hD hch hlast hj
  rw [← hr] at hst
  refine (tnote_one hT2 0 r (R11.new X r 38) (fun k c => by
    have := (hT.ownLt c).1
    omega) (by rw [World.size_alloc]; omega) (by rw [hr]; exact hid) (by rw [hr]; exact hsh.1) (by rw [hr]; exact hsh.2.2) (by rw [hr]; exact hsh.2.1) (fun k d hd => ⟨by have := (hB.bnd k d hd).1; omega, by have := (hB.bnd k d hd).2; omega⟩) (by unfold maxLen; omega)).mono ?_
  rintro x w' ⟨rfl, n', m', hn', hp, hab⟩
  rw [hst.1]
  have r2 := h3.below hba
  have b2 := h4.below hba
  have hnew : ∀ k, k < (X.alloc (.cells #[.int .i64 r.k, .int .i64 r.g, .int .i64 r.t, .int .i64 r.p, .int .i64 r.pg, .string r.key, .bool r.hb, .string r.sb, .bool r.ha, .string r.sa, .int .i64 r.u] 38)).heap.size → ¬ TbOwn M m k → ¬ TbOwn M m' k := fun k hk hno c => by
    rcases hp.2.2 k c with q | q
    · exact hno q
    · omega
  refine ⟨rfl, ⟨n', m', hp.1, by omega, by rw [hab]; exact hst.2, fun g hg1 => hnew g (World.ownsRow.lt r2 g hg1).2 (hg g hg1), hnew bx b2.lt hx⟩, row_block r2 (fun k hk => hp.2.1.block k (World.ownsRow.lt r2 k hk).2 (hg k hk)), ?_, ?_⟩
  · have hbk := hp.2.1.block bx b2.lt hx
    exact ⟨fun k u hk => (World.cell?_of_block hbk).trans (b2.at' k u hk), fun i => (World.frozen?_of_block (a := ⟨bx, i, none⟩) hbk).trans (b2.fz i), Nat.lt_of_lt_of_le b2.lt hp.2.1.size⟩
  · exact (h5.trans (hba.mono h5.size)).trans (hp.2.1.below (Nat.le_trans h5.size hba.size) (fun k c => (hT2.ownLt c).2))
theorem back_get (hj : j < D.cl.length - ch) : ((D.cl.drop ch).reverse).getD j noRc = D.cl.getD (D.cl.length - 1 - j) noRc := by
  have h1 : j < (D.cl.drop ch).reverse.length := by rw [List.length_reverse, List.length_drop]; exact hj
  rw [List.getD_eq_getElem?_getD, List.getElem?_eq_getElem h1, List.getElem_reverse, List.getElem_drop, List.getD_eq_getElem?_getD, List.getElem?_eq_getElem (by omega)]
  simp only [Option.getD_some]
  congr 1
  rw [List.length_drop]
  omega
end
set_option maxRecDepth 100000 in
set_option maxHeartbeats 4000000 in
theorem txnBack_walk (a : Option Addr) (l : List Rc) (c : Nat) (id no : Int) (W : World) (hL : RcsAt W a l) (hw : ∀ i, i < l.length → RcWf (l.getD i noRc)) (hid : (Lit.int .i64 id).wf = true) :
    Calls Try.prog 6 #[.slice a l.length c, .int .i64 id, .int .i64 no] W fun e w' => e = .returned (.bool true) ∧ Below W.heap.size W w' := by
  have KG := Lib.hid (great17_any hL c)
  have KA := Lib.hid awake17_any
  have HW := Lib.hid hw
  have HL := Lib.hid hL
  clear hL hw
  go_enter Try.func6, Try.ntmps6
  go_wp2_with fail
  refine KG.out.mono ?_
  rintro x w1 ⟨b, rfl, rfl, hs⟩
  cases b
  · have HS := Lib.hid (hs rfl)
    clear hs KG
    go_wp2_with fail
    refine (KA.out _).mono ?_
    rintro x w1 ⟨rfl, hb1⟩
    have B1 := Lib.hid hb1
    have KN := Lib.hid (tnew_any w1)
    clear hb1 KA
    go_wp2_with fail
    refine KN.out.mono ?_
    rintro x w2 ⟨t, M, rfl, hT, hb2, hMt⟩
    have S0 : Hid (BackS w1 t M 0 w2) := ⟨⟨0, _, hT, Nat.le_refl _, fun j d hd => by simp [absM] at hd⟩, hb2⟩
    have HL1 := Lib.hid (HL.out.below B1.out)
    clear hT hb2 hMt KN HL
    go_wp2
    go_loopw [8] (fun i wr => ∃ k : Nat, k ≤ l.length ∧ i = .int .i64 k ∧ BackS w1 t M k wr) (fun i _ => l.length - (intOf i).toNat)
    case atStart => exact ⟨0, Nat.zero_le _, rfl, S0.out⟩
    case round =>
      obtain ⟨k, hk, rfl, hS⟩ := hrel
      have SK := Lib.hid hS
      clear hS S0
      by_cases hlt : k < l.length
      · obtain ⟨b, off, rfl, c0, c1, c2, c3, c4, c5, c6, c7, c8, c9, c10⟩ := rcs_at (HL1.out.below SK.out.below) hlt
        have K1 := SK.out.next (by have := HS.out.1; omega) (l.getD k noRc) (HW.out k hlt).2.2.1 (HS.out.2 k hlt)
        generalize l.getD k noRc = s at K1 c0 c1 c2 c3 c4 c5 c6 c7 c8 c9 c10
        obtain ⟨sk, sg, st, sp, spg, skey, shb, ssb, sha, ssa, su⟩ := s
        simp only at K1 c0 c1 c2 c3 c4 c5 c6 c7 c8 c9 c10
        have K1 := Lib.hid K1
        clear SK
        go_wp2_with fail
        refine K1.out.mono ?_
        rintro x w9 ⟨⟨e, rfl⟩, hN⟩
        have SN := Lib.hid hN
        clear hN K1 c0 c1 c2 c3 c4 c5 c6 c7 c8 c9 c10
        have hl60 := HS.out.1
        go_wp2
        go_roundw
        case rel => exact ⟨k + 1, by omega, by go_num, SN.out⟩
        case measure => simp [intOf]; omega
      · obtain rfl : k = l.length := by omega
        go_upto_region 8 with fail
        obtain ⟨n, m, hT, hn, hI⟩ := SK.out.ex
        have HB3 := Lib.hid SK.out.below
        have hl60 := HS.out.1
        have HI := Lib.hid hI
        rename World => w3
        have hba := (Below.refl w3.heap.size w3).alloc (Nat.le_refl _) (.cells #[.int .i64 no] 3)
        have n0 : (w3.alloc (.cells #[.int .i64 no] 3)).cell? ⟨w3.heap.size, 0, none⟩ = some (.int .i64 no) := new_cell rfl rfl
        have HBN : Hid (∀ j d, absM m j = some d → Bnd 1000 d) := fun j d hd => ⟨by have := (hI j d hd).cl; omega, by have := (hI j d hd).pl; omega⟩
        have HT3 := Lib.hid (hT.below hba)
        have KB := Lib.hid (tback_q HT3.out id hid HBN.out (fun d hd => (hI id d hd).plc) no w3.heap.size 1 n0)
        have HB4 := Lib.hid (HB3.out.trans (hba.mono HB3.out.size))
        have HN0 := Lib.hid hn
        clear hT hI hn SK hba n0 HB3
        go_wp2_with fail
        refine KB.out.mono ?_
        rintro x w4 ⟨ba, bc, e, lb, rfl, hr, hb4, hgood, _⟩
        have HT4 := Lib.hid (HT3.out.below hb4)
        have HR4 := Lib.hid hr
        have HGD := Lib.hid hgood
        have HB5 := Lib.hid (HB4.out.trans (hb4.mono HB4.out.size))
        have HSZ : Hid (w3.heap.size < (w3.alloc (.cells #[.int .i64 no] 3)).heap.size) := by
          show _ < _
          rw [World.size_alloc]
          exact Nat.lt_succ_self _
        have KT := Lib.hid (tget_q HT4.out id hid HBN.out)
        clear hr hb4 hgood HB4 KB
        go_wp2_with fail
        refine KT.out.mono ?_
        rintro x w5 ⟨i0, i1, i2, i3, i4, ca, pa, cc, pc, nc, np, rfl, hb5, hx⟩
        have hba := (Below.refl w5.heap.size w5).alloc (Nat.le_refl _) (.cells #[.int .i64 i0, .int .i64 i1, .int .i64 i2, .int .i64 i3, .int .i64 i4, .slice ca nc cc, .slice pa np pc] 56)
        have hb6 := hb5.trans (hba.mono hb5.size)
        have HT6 := Lib.hid (HT4.out.below hb6)
        have HR6 := Lib.hid (HR4.out.below hb6)
        have HB6 := Lib.hid (HB5.out.trans (hb6.mono HB5.out.size))
        have BX : Hid (BoxL (w5.alloc (.cells #[.int .i64 i0, .int .i64 i1, .int .i64 i2, .int .i64 i3, .int .i64 i4, .slice ca nc cc, .slice pa np pc] 56)) w5.heap.size [.int .i64 i0, .int .i64 i1, .int .i64 i2, .int .i64 i3, .int .i64 i4, .slice ca nc cc, .slice pa np pc]) := BoxL.new w5 [.int .i64 i0, .int .i64 i1, .int .i64 i2, .int .i64 i3, .int .i64 i4, .slice ca nc cc, .slice pa np pc] 56
        have HX := Lib.hid hx
        have HOX : Hid (∀ g, TbOwn M m g → g < w5.heap.size) := fun g hg => Nat.lt_of_lt_of_le (HT4.out.ownLt hg).1 hb5.size
        have HOR : Hid (∀ g, (Value.slice ba lb.length bc).ownBlock = some g → ¬ TbOwn M m g) := fun g hg c => by
          have h1 := (World.ownsRow.lt HR4.out g hg).1
          have h2 := (HT3.out.ownLt c).1
          omega
        clear hba hb5 hb6 hx KT HT4 HR4 HB5
        go_upto_region 10 with fail
        generalize w5.alloc (.cells #[.int .i64 i0, .int .i64 i1, .int .i64 i2, .int .i64 i3, .int .i64 i4, .slice ca nc cc, .slice pa np pc] 56) = w6 at *
        generalize w5.heap.size = bx at *
        have x3 := BX.out.at' 3 _ rfl
        by_cases he : e = 0
        · subst he
          obtain ⟨D, p1, ch, hA, hst, hpm, hch, hlb⟩ := HGD.out rfl
          obtain ⟨rfl, rfl⟩ := HX.out D hA
          by_cases hbig : (2305843009213693952 : Int) < D.last
          · go_wp2
            go_ret
            exact ⟨rfl, (B1.out.trans (HB6.out.mono B1.out.size))⟩
          · have hbk := (HI.out id D hA).more hl60
            have HK := Lib.hid hbk
            have hlen : lb.length = D.cl.length - ch := by rw [hlb, List.length_reverse, List.length_drop]
            have HLB := Lib.hid hlb
            have HCH := Lib.hid hch
            have HBIG : Hid (D.last ≤ 2305843009213693952) := by
              show D.last ≤ 2305843009213693952
              omega
            have L0 : Hid (BkL w1 t M (w3.alloc (.cells #[.int .i64 no] 3)).heap.size ba bc lb bx [.int .i64 i0, .int .i64 i1, .int .i64 i2, .int .i64 D.last, .int .i64 i4, .slice ca D.cl.length cc, .slice pa np pc] id no D p1 ch 0 w6) :=
              ⟨⟨n, m, HT6.out, by have := HN0.out; omega, ⟨⟨D, hA, hst, by omega, by simp, hpm, HK.out⟩, HBN.out⟩, HOR.out, fun c => Nat.lt_irrefl _ (HOX.out bx c)⟩, HR6.out, BX.out, HB6.out⟩
            have hcl60 := hbk.cl
            have hw : IntKind.i64.wrap ((D.cl.length : Int) - (lb.length : Int)) = (ch : Int) := by
              rw [IntKind.wrap_i64]
              omega
            have HLEN := Lib.hid hlen
            have x5 := BX.out.at' 5 _ rfl
            have HL60 := Lib.hid hcl60
            clear hbk hlb hch hA hst hpm hlen hcl60
            go_wp2
            clear x3 x5
            go_loopw [14] (fun i X => ∃ j : Nat, j ≤ lb.length ∧ i = .int .i64 j ∧ BkL w1 t M (w3.alloc (.cells #[.int .i64 no] 3)).heap.size ba bc lb bx [.int .i64 i0, .int .i64 i1, .int .i64 i2, .int .i64 D.last, .int .i64 i4, .slice ca D.cl.length cc, .slice pa np pc] id no D p1 ch j X) (fun i _ => lb.length - (intOf i).toNat)
            case atStart => exact ⟨0, Nat.zero_le _, rfl, L0.out⟩
            case round =>
              obtain ⟨j, hj, rfl, hS⟩ := hrel
              have LK := Lib.hid hS
              clear hS L0
              have h60 := HL60.out
              have hln := HLEN.out
              by_cases hlt : j < lb.length
              · obtain ⟨g, rfl⟩ : ∃ g, ba = some ⟨g, 0, none⟩ := by
                  rcases LK.out.row.form with ⟨_, e⟩ | ⟨g, c', e, _⟩
                  · rw [e] at hlt; simp at hlt
                  · injection e with e1 _ _
                    exact ⟨g, e1⟩
                have hbg : lb.getD j noRc = D.cl.getD (D.cl.length - 1 - j) noRc := by rw [HLB.out]; exact back_get (by omega)
                have KN := LK.out.row.cell j
                rw [hbg] at KN
                have e1 := KN 1 hlt (by omega) _ rfl
                have e4 := KN 4 hlt (by omega) _ rfl
                have e5 := KN 5 hlt (by omega) _ rfl
                have e6 := KN 6 hlt (by omega) _ rfl
                have e7 := KN 7 hlt (by omega) _ rfl
                have e8 := KN 8 hlt (by omega) _ rfl
                have e9 := KN 9 hlt (by omega) _ rfl
                have x3 := LK.out.box.at' 3 _ rfl
                have hl1 := HK.out.last
                have hl2 := HBIG.out
                have a1 : IntKind.i64.wrap (D.last + 1) = D.last + 1 := by rw [IntKind.wrap_i64]; omega
                have a2 : IntKind.i64.wrap (D.last + 1 + (j : Int)) = D.last + 1 + (j : Int) := by rw [IntKind.wrap_i64]; omega
                have a3 : IntKind.i64.wrap (D.last + (j : Int)) = D.last + (j : Int) := by rw [IntKind.wrap_i64]; omega
                have HJ : Hid (j < D.cl.length - ch) := by
                  show j < D.cl.length - ch
                  omega
                have HCG : Hid (∃ c, c = D.cl.getD (D.cl.length - 1 - j) noRc) := ⟨_, rfl⟩
                obtain ⟨s, hs⟩ := HCG.out
                rw [← hs] at e1 e4 e5 e6 e7 e8 e9
                have HSS := Lib.hid hs
                clear KN hbg hl1 hl2 hs HCG h60 hln
                go_upto_region 16 with fail
                go_region_held3 (fun w' => w'.cell? ⟨g, j * 11 + 1, none⟩ = some (.int .i64 s.g) ∧ w'.cell? ⟨g, j * 11 + 4, none⟩ = some (.int .i64 s.pg) ∧ w'.cell? ⟨g, j * 11 + 5, none⟩ = some (.string s.key) ∧ w'.cell? ⟨g, j * 11 + 6, none⟩ = some (.bool s.hb) ∧ w'.cell? ⟨g, j * 11 + 7, none⟩ = some (.string s.sb) ∧ w'.cell? ⟨g, j * 11 + 8, none⟩ = some (.bool s.ha) ∧ w'.cell? ⟨g, j * 11 + 9, none⟩ = some (.string s.sa) ∧ w'.cell? ⟨bx, 3, none⟩ = some (.int .i64 D.last))
                  ((refine ⟨?_, ?_, ?_, ?_, ?_, ?_, ?_, ?_⟩ <;> (repeat (first | with_reducible assumption | with_reducible refine keep_alloc ?_ | with_reducible refine keep_drew ?_))))
                  (first
                    | fail)
                all_goals
                  have hbY := ((Below.refl wr.heap.size wr).alloc (Nat.le_refl _) (.cells #[.int .i64 3, .int .i64 (D.last + 1 + (j : Int)), .int .i64 id, .int .i64 (D.last + (j : Int)), .int .i64 s.pg, .string s.key, .bool s.ha, .string s.sa, .bool s.hb, .string s.sb, .int .i64 s.g] 38)).drew
                  have R1 : R11 (wr.alloc (.cells #[.int .i64 3, .int .i64 (D.last + 1 + (j : Int)), .int .i64 id, .int .i64 (D.last + (j : Int)), .int .i64 s.pg, .string s.key, .bool s.ha, .string s.sa, .bool s.hb, .string s.sb, .int .i64 s.g] 38)).drew wr.heap.size ⟨3, D.last + 1 + (j : Int), id, D.last + (j : Int), s.pg, s.key, s.ha, s.sa, s.hb, s.sb, s.g⟩ := ⟨fun k u hk => (R11.new wr ⟨3, D.last + 1 + (j : Int), id, D.last + (j : Int), s.pg, s.key, s.ha, s.sa, s.hb, s.sb, s.g⟩ 38).at' k u hk, fun k => (R11.new wr ⟨3, D.last + 1 + (j : Int), id, D.last + (j : Int), s.pg, s.key, s.ha, s.sa, s.hb, s.sb, s.g⟩ 38).fz k⟩
                  obtain ⟨c0, c1, c2, c3, c4, c5, c6, c7, c8, c9, c10⟩ := R1.all
                  have KN := Lib.hid ((LK.out.keep hbY).next HK.out HCH.out HBIG.out HJ.out hid ⟨3, D.last + 1 + (j : Int), id, D.last + (j : Int), s.pg, s.key, s.ha, s.sa, s.hb, s.sb, s.g⟩ (by rw [← HSS.out]; rfl))
                  clear LK hbY R1 e1 e4 e5 e6 e7 e8 e9 x3 a1 a2 a3
                  go_upto_region 17 with fail
                  generalize (wr.alloc (.cells #[.int .i64 3, .int .i64 (D.last + 1 + (j : Int)), .int .i64 id, .int .i64 (D.last + (j : Int)), .int .i64 s.pg, .string s.key, .bool s.ha, .string s.sa, .bool s.hb, .string s.sb, .int .i64 s.g] 38)).drew = Y at *
                  go_wp2_with fail
                  refine KN.out.mono ?_
                  rintro x w9 ⟨rfl, hL⟩
                  have LN := Lib.hid hL
                  clear hL KN c0 c1 c2 c3 c4 c5 c6 c7 c8 c9 c10
                  have h60 : j + 1 ≤ 1000 := by
                    have := HL60.out
                    have := HJ.out
                    omega
                  go_wp2
                  go_roundw
                  case rel =>
                    first | exact ⟨j + 1, by omega, by go_num, LN.out⟩ | (repeat (first | exact ⟨⟨j + 1, by omega, by go_num, LN.out⟩, rfl⟩ | apply Exists.intro))
                  case measure => simp [intOf]; omega
              · obtain rfl : j = lb.length := by omega
                obtain ⟨n', m', hT', hn', hB', _, _⟩ := LK.out.ex
                obtain ⟨d', hA', hst', hla', hcl', hpm', hK'⟩ := hB'.ex
                have hba := (Below.refl wr.heap.size wr).alloc (Nat.le_refl _) (.cells #[.int .i64 no] 3)
                have n0 : (wr.alloc (.cells #[.int .i64 no] 3)).cell? ⟨wr.heap.size, 0, none⟩ = some (.int .i64 no) := new_cell rfl rfl
                have hchl : d'.cl.length = ch := by
                  rw [hcl', List.length_take, hln]
                  have := HCH.out
                  omega
                have KB := Lib.hid (tback_q (hT'.below hba) id hid hB'.bnd (fun d hd => by
                  rw [hA'] at hd
                  injection hd with hd
                  subst hd
                  exact hK'.plc) no wr.heap.size 1 n0)
                have HT2 := Lib.hid (hT'.below hba)
                have HBd := Lib.hid hB'.bnd
                have HA2 := Lib.hid hA'
                have HST2 := Lib.hid hst'
                have HPM2 := Lib.hid hpm'
                have HCL2 := Lib.hid hchl
                have HW1 := Lib.hid (LK.out.below.trans (hba.mono LK.out.below.size))
                clear hT' hn' hB' hA' hst' hla' hcl' hpm' hK' hba n0 hchl LK hln
                rename World => w7
                go_upto_region 19 with fail
                go_wp2_with fail
                refine KB.out.mono ?_
                rintro x w8 ⟨fa, fc, e, lf, rfl, hr, hb8, hgood, hmust⟩
                have he : e = 0 := hmust d' p1 ch HA2.out HST2.out HPM2.out (Nat.le_of_eq HCL2.out.symm)
                subst he
                obtain ⟨d2, p2, ch2, hA2, _, hpm2, _, hlf⟩ := hgood rfl
                obtain rfl : d' = d2 := Option.some.inj (HA2.out.symm.trans hA2)
                have hce : ch = ch2 := by
                  have := HPM2.out.symm.trans hpm2
                  injection this with this
                  injection this with _ this
                  exact_mod_cast this
                have hlf0 : lf.length = 0 := by
                  rw [hlf, List.length_reverse, List.length_drop, HCL2.out, ← hce, Nat.sub_self]
                have HT8 := Lib.hid (HT2.out.below hb8)
                have KT := Lib.hid (tget_q HT8.out id hid HBd.out)
                have HW2 := Lib.hid (HW1.out.trans (hb8.mono HW1.out.size))
                clear hr hb8 hgood hmust hA2 hpm2 hlf hce KB
                generalize lf.length = lfn at *
                subst hlf0
                go_wp2_with fail
                refine KT.out.mono ?_
                rintro x w9 ⟨y0, y1, y2, y3, y4, ya, yb, nc', np', yc, yd, rfl, hb9, hy⟩
                obtain ⟨_, hyc⟩ := hy d' HA2.out
                obtain rfl : yc = ch := hyc.trans HCL2.out
                have hoo : okA (absM m') id = true := by unfold okA; rw [HA2.out]; rfl
                rw [hoo]
                have HW3 := Lib.hid (B1.out.trans ((HW2.out.trans (hb9.mono HW2.out.size)).mono B1.out.size))
                clear hb9 hy hyc KT hoo
                go_upto_region 21 with fail
                go_wp2
                go_ret
                exact ⟨rfl, HW3.out.alloc HW3.out.size _⟩
        · go_wp2
          go_ret
          exact ⟨rfl, (B1.out.trans (HB6.out.mono B1.out.size))⟩
  · clear hs KG
    go_wp2_with fail
    refine (KA.out _).mono ?_
    rintro x w1 ⟨rfl, hb1⟩
    have B1 := Lib.hid hb1
    clear hb1
    go_wp2
    go_ret
    exact ⟨rfl, B1.out⟩
end Go.Proofs.Ytophbefmlfieeaa
