/-
  TxnOwn: the walk.
-/
import Derived.Test.YtophbefmlfieeaaTxOwnA
namespace Go.Proofs.Ytophbefmlfieeaa
open Go.RowKit
/-- A table behind k records. -/
structure OwnS (w1 : World) (t M k : Nat) (X : World) : Prop where
  ex : ∃ n m, TbAt X w1.heap.size t M n m ∧ n ≤ k ∧ OwnI (absM m) k
  below : Below w1.heap.size w1 X
theorem OwnS.next {w1 X : World} {t M k : Nat} (h : OwnS w1 t M k X) (hk : k ≤ 1000) (r : Rc) (hi : (Lit.int .i64 r.t).wf = true) (hs : Short r) :
    Calls Try.prog 11 #[.pointer (some ⟨t, 0, none⟩), .int .i64 0, .slice (some ⟨X.heap.size, 0, none⟩) 1 1] (X.alloc (.cells #[.int .i64 r.k, .int .i64 r.g, .int .i64 r.t, .int .i64 r.p, .int .i64 r.pg, .string r.key, .bool r.hb, .string r.sb, .bool r.ha, .string r.sa, .int .i64 r.u] 38)) fun x w' => (∃ e, x = .returned (.int .i64 e)) ∧ OwnS w1 t M (k + 1) w' := by
  obtain ⟨⟨n, m, hT, hn, hI⟩, hB⟩ := h
  have hba := (Below.refl X.heap.size X).alloc (Nat.le_refl _) (.cells #[.int .i64 r.k, .int .i64 r.g, .int .i64 r.t, .int .i64 r.p, .int .i64 r.pg, .string r.key, .bool r.hb, .string r.sb, .bool r.ha, .string r.sa, .int .i64 r.u] 38)
  have hT2 := hT.below hba
  refine (tnote_one hT2 0 r (R11.new X r 38) (fun j c => by
    have := (hT.ownLt c).1
    omega) (by rw [World.size_alloc]; omega) hi hs.1 hs.2.1 hs.2.2 (fun j d hd => ⟨by have := (hI j d hd).cl; omega, by have := (hI j d hd).pl; omega⟩) (by unfold maxLen; omega)).mono ?_
  rintro x w' ⟨rfl, n', m', hn', hp, hab⟩
  refine ⟨⟨_, rfl⟩, ⟨n', m', hp.1, by omega, by rw [hab]; exact noteA_own hI⟩, ?_⟩
  exact (hB.trans (hba.mono hB.size)).trans (hp.2.1.below (Nat.le_trans hB.size hba.size) (fun j c => (hT2.ownLt c).2))
theorem rcs_at {X : World} {a : Option Addr} {l : List Rc} (h : RcsAt X a l) {k : Nat} (hk : k < l.length) : ∃ b off, a = some ⟨b, off, none⟩ ∧ X.cell? ⟨b, off + k * 11, none⟩ = some (.int .i64 (l.getD k noRc).k) ∧ X.cell? ⟨b, off + k * 11 + 1, none⟩ = some (.int .i64 (l.getD k noRc).g) ∧ X.cell? ⟨b, off + k * 11 + 2, none⟩ = some (.int .i64 (l.getD k noRc).t) ∧ X.cell? ⟨b, off + k * 11 + 3, none⟩ = some (.int .i64 (l.getD k noRc).p) ∧ X.cell? ⟨b, off + k * 11 + 4, none⟩ = some (.int .i64 (l.getD k noRc).pg) ∧ X.cell? ⟨b, off + k * 11 + 5, none⟩ = some (.string (l.getD k noRc).key) ∧ X.cell? ⟨b, off + k * 11 + 6, none⟩ = some (.bool (l.getD k noRc).hb) ∧ X.cell? ⟨b, off + k * 11 + 7, none⟩ = some (.string (l.getD k noRc).sb) ∧ X.cell? ⟨b, off + k * 11 + 8, none⟩ = some (.bool (l.getD k noRc).ha) ∧ X.cell? ⟨b, off + k * 11 + 9, none⟩ = some (.string (l.getD k noRc).sa) ∧ X.cell? ⟨b, off + k * 11 + 10, none⟩ = some (.int .i64 (l.getD k noRc).u) := by
  rcases h with h | ⟨b, off, e, hc⟩
  · rw [h] at hk; simp at hk
  · exact ⟨b, off, e, hc k hk⟩
def zRc : Rc := ⟨0, 0, 0, 0, 0, ⟨#[]⟩, false, ⟨#[]⟩, false, ⟨#[]⟩, 0⟩
/-- A row of places that is written. -/
structure PlcsW (X : World) (g n : Nat) : Prop where
  all : ∀ j, j < n → ∃ u, X.cell? ⟨g, j * 2, none⟩ = some u
  fz : ∀ i, X.frozen? ⟨g, i, none⟩ = false
theorem PlcsW.set {X : World} {g n : Nat} (h : PlcsW X g n) (i : Nat) (u : Value) : PlcsW (X.setCell ⟨g, i, none⟩ u) g n := by
  refine ⟨fun j hj => ?_, fun k => by rw [World.frozen?_setCell]; exact h.fz k⟩
  obtain ⟨v, hv⟩ := h.all j hj
  by_cases e : i = j * 2
  · subst e
    exact ⟨u, World.cell?_setCell_same _ _ _ hv⟩
  · exact ⟨v, by rw [World.cell?_setCell_other _ _ _ _ (fun x => by injection x with _ x; exact e x)]; exact hv⟩
/-- What holds while the changes that were told are written. -/
structure Lp2 (w3 : World) (bx : Nat) (vs : List Value) (ca pa : Option Addr) (cc pc : Nat) (cl : List Rc) (pl : List Plc) (X : World) : Prop where
  box : BoxL X bx vs
  pr : PlcR X w3.heap.size (.slice pa pl.length pc) pl
  rows : 0 < cl.length → ∃ g, ca = some ⟨g, 0, none⟩ ∧ RecsW X g cl.length (fun _ _ => True) ∧ g < bx ∧ w3.heap.size ≤ g ∧ ∀ k, (Value.slice pa pl.length pc).ownBlock = some k → k ≠ g
  pb : ∀ k, (Value.slice pa pl.length pc).ownBlock = some k → k < bx
  below : Below w3.heap.size w3 X
theorem Lp2.set {w3 X : World} {bx g i : Nat} {vs : List Value} {ca pa : Option Addr} {cc pc : Nat} {cl : List Rc} {pl : List Plc} (h : Lp2 w3 bx vs ca pa cc pc cl pl X) (hc : ca = some ⟨g, 0, none⟩) (hi : i < cl.length) : Lp2 w3 bx vs ca pa cc pc cl pl (X.setCells g (i * 11) zRc.cells) := by
  obtain ⟨g', e, h1, h2, h3, h4⟩ := h.rows (by omega)
  have e3 : g = g' := congrArg Addr.block (Option.some.inj (hc.symm.trans e))
  subst e3
  have k1 := BoxL.sets (Nat.ne_of_lt h2) zRc.cells (i * 11) X h.box
  have k2 := plc_sets h4 zRc.cells (i * 11) X h.pr
  have k3 : RecsW (X.setCells g (i * 11) zRc.cells) g cl.length (fun _ _ => True) := h1.set hi zRc True.intro (fun _ _ _ _ => True.intro)
  have k4 := below_sets h3 zRc.cells (i * 11) X h.below
  exact ⟨k1, k2, fun _ => ⟨g, hc, k3, h2, h3, h4⟩, h.pb, k4⟩
structure Lp3 (w3 : World) (bx : Nat) (vs : List Value) (pa : Option Addr) (pl : List Plc) (X : World) : Prop where
  box : BoxL X bx vs
  rows : 0 < pl.length → ∃ g, pa = some ⟨g, 0, none⟩ ∧ PlcsW X g pl.length ∧ g < bx ∧ w3.heap.size ≤ g
  below : Below w3.heap.size w3 X
theorem Lp2.lp3 {w3 X : World} {bx : Nat} {vs : List Value} {ca pa : Option Addr} {cc pc : Nat} {cl : List Rc} {pl : List Plc} (h : Lp2 w3 bx vs ca pa cc pc cl pl X) : Lp3 w3 bx vs pa pl X := by
  refine ⟨h.box, fun h0 => ?_, h.below⟩
  have hp := h.pr
  rcases hp.form with ⟨_, e⟩ | ⟨g, c, e, _, hb, _⟩
  · rw [e] at h0; simp at h0
  · injection e with e1 e2 e3
    subst e1
    exact ⟨g, rfl, ⟨fun j hj => ⟨_, (PlcR.cell hp j hj).1⟩, fun i => World.ownsRow.frozenAt hp i⟩, h.pb g rfl, hb⟩
theorem Lp3.set {w3 X : World} {bx g i : Nat} {vs : List Value} {pa : Option Addr} {pl : List Plc} (h : Lp3 w3 bx vs pa pl X) (hc : pa = some ⟨g, 0, none⟩) (h0 : 0 < pl.length) (u : Value) : Lp3 w3 bx vs pa pl (X.setCell ⟨g, i, none⟩ u) := by
  obtain ⟨g', e, h1, h2, h3⟩ := h.rows h0
  have e3 : g = g' := congrArg Addr.block (Option.some.inj (hc.symm.trans e))
  subst e3
  exact ⟨h.box.other (Nat.ne_of_lt h2), fun _ => ⟨g, hc, h1.set i u, h2, h3⟩, h.below.setCell (p := ⟨g, i, none⟩) h3 u⟩
structure Lp4 (w3 : World) (a : Option Addr) (N i : Nat) (X : World) : Prop where
  rows : 0 < N → ∃ g, a = some ⟨g, 0, none⟩ ∧ RecsW X g N (fun j r => i ≤ j → r.k = 2) ∧ w3.heap.size ≤ g
  below : Below w3.heap.size w3 X
theorem Lp4.set {w3 X : World} {g N i : Nat} {a : Option Addr} (h : Lp4 w3 a N i X) (hc : a = some ⟨g, 0, none⟩) (hi : i < N) : Lp4 w3 a N (i + 1) (X.setCells g (i * 11) zRc.cells) := by
  obtain ⟨g', e, h1, h3⟩ := h.rows (by omega)
  have e3 : g = g' := congrArg Addr.block (Option.some.inj (hc.symm.trans e))
  subst e3
  exact ⟨fun _ => ⟨g, hc, h1.set hi zRc (fun e => by omega) (fun j r hj hr hij => hr (by omega)), h3⟩, below_sets h3 _ _ _ h.below⟩
theorem lp4_of {w3 X Y : World} {a : Option Addr} {c : Nat} {l : List Rc} (hb : Below w3.heap.size w3 X) (hr : RecR Y X.heap.size (.slice a l.length c) l) (h2 : ∀ c ∈ l, c.k = 2) (hY : Below X.heap.size X Y) : Lp4 w3 a l.length 0 Y := by
  refine ⟨fun h0 => ?_, hb.trans (hY.mono hb.size)⟩
  rcases hr.form with ⟨_, e⟩ | ⟨g, c', e, _, hg, _⟩
  · rw [e] at h0; simp at h0
  · injection e with e1 e2 e3
    subst e1
    refine ⟨g, rfl, recsW_of hr (fun j hj _ => ?_), Nat.le_trans hb.size hg⟩
    rw [List.getD_eq_getElem?_getD, List.getElem?_eq_getElem hj]
    exact h2 _ (List.getElem_mem hj)
theorem eqB_two (g t p pg u : Int) (key sb sa : ByteArray) (hb ha : Bool) : Rc.eqB ⟨2, g, t, p, pg, key, hb, sb, ha, sa, u⟩ ⟨0, 0, 0, 0, 0, ⟨#[]⟩, false, ⟨#[]⟩, false, ⟨#[]⟩, 0⟩ = false := by simp [Rc.eqB]
set_option maxRecDepth 100000 in
set_option maxHeartbeats 4000000 in
theorem txnOwn_walk (a : Option Addr) (l : List Rc) (c : Nat) (id : Int) (W : World) (hL : RcsAt W a l) (hw : ∀ i, i < l.length → RcWf (l.getD i noRc)) (hid : (Lit.int .i64 id).wf = true) :
    Calls Try.prog 4 #[.slice a l.length c, .int .i64 id] W fun e w' => e = .returned (.bool true) ∧ Below W.heap.size W w' := by
  have KG := Lib.hid (great17_any hL c)
  have KA := Lib.hid awake17_any
  have HW := Lib.hid hw
  have HL := Lib.hid hL
  clear hL hw
  go_enter Try.func4, Try.ntmps4
  go_wp2_with fail
  refine KG.out.mono ?_
  rintro x w1 ⟨b, rfl, rfl, hs⟩
  cases b
  · have HS := Lib.hid (hs rfl)
    clear hs KG
    go_wp2_with fail
    refine (KA.out _).mono ?_
    rintro x w1 ⟨rfl, hb1⟩
    have B1 := Lib.hid hb1
    have KN := Lib.hid (tnew_any w1)
    clear hb1 KA
    go_wp2_with fail
    refine KN.out.mono ?_
    rintro x w2 ⟨t, M, rfl, hT, hb2, hMt⟩
    have S0 : Hid (OwnS w1 t M 0 w2) := ⟨⟨0, _, hT, Nat.le_refl _, fun j d hd => by simp [absM] at hd⟩, hb2⟩
    have HL1 := Lib.hid (HL.out.below B1.out)
    clear hT hb2 hMt KN HL
    go_wp2
    go_loopw [6] (fun i wr => ∃ k : Nat, k ≤ l.length ∧ i = .int .i64 k ∧ OwnS w1 t M k wr) (fun i _ => l.length - (intOf i).toNat)
    case atStart => exact ⟨0, Nat.zero_le _, rfl, S0.out⟩
    case round =>
      obtain ⟨k, hk, rfl, hS⟩ := hrel
      have SK := Lib.hid hS
      clear hS S0
      by_cases hlt : k < l.length
      · obtain ⟨b, off, rfl, c0, c1, c2, c3, c4, c5, c6, c7, c8, c9, c10⟩ := rcs_at (HL1.out.below SK.out.below) hlt
        have K1 := SK.out.next (by have := HS.out.1; omega) (l.getD k noRc) (HW.out k hlt).2.2.1 (HS.out.2 k hlt)
        generalize l.getD k noRc = s at K1 c0 c1 c2 c3 c4 c5 c6 c7 c8 c9 c10
        obtain ⟨sk, sg, st, sp, spg, skey, shb, ssb, sha, ssa, su⟩ := s
        simp only at K1 c0 c1 c2 c3 c4 c5 c6 c7 c8 c9 c10
        have K1 := Lib.hid K1
        clear SK
        go_wp2_with fail
        refine K1.out.mono ?_
        rintro x w9 ⟨⟨e, rfl⟩, hN⟩
        have SN := Lib.hid hN
        clear hN K1 c0 c1 c2 c3 c4 c5 c6 c7 c8 c9 c10
        have hl60 := HS.out.1
        go_wp2
        go_roundw
        case rel => exact ⟨k + 1, by omega, by go_num, SN.out⟩
        case measure => simp [intOf]; omega
      · obtain rfl : k = l.length := by omega
        go_upto_region 8 with fail
        obtain ⟨n, m, hT, hn, hI⟩ := SK.out.ex
        have HB3 := Lib.hid SK.out.below
        have HT := Lib.hid hT
        have HI := Lib.hid hI
        have HN : Hid (l.length ≤ 1000) := by
          show l.length ≤ 1000
          have := HS.out.1
          omega
        have KT := Lib.hid (tget_own hT id hid hI HN.out)
        clear hT hI hn SK
        rename World => w3
        go_wp2_with fail
        refine KT.out.mono ?_
        rintro x w4 ⟨i0, i1, i2, i3, i4, ca, pa, cc, pc, cl, pl, rfl, hr, hp, hse, hb4, hcl, hpl, hno⟩
        have hba := (Below.refl w4.heap.size w4).alloc (Nat.le_refl _) (.cells #[.int .i64 i0, .int .i64 i1, .int .i64 i2, .int .i64 i3, .int .i64 i4, .slice ca cl.length cc, .slice pa pl.length pc] 56)
        have hb5 := hb4.trans (hba.mono hb4.size)
        have L2 : Hid (Lp2 w3 w4.heap.size [.int .i64 i0, .int .i64 i1, .int .i64 i2, .int .i64 i3, .int .i64 i4, .slice ca cl.length cc, .slice pa pl.length pc] ca pa cc pc cl pl (w4.alloc (.cells #[.int .i64 i0, .int .i64 i1, .int .i64 i2, .int .i64 i3, .int .i64 i4, .slice ca cl.length cc, .slice pa pl.length pc] 56))) := ⟨BoxL.new w4 [.int .i64 i0, .int .i64 i1, .int .i64 i2, .int .i64 i3, .int .i64 i4, .slice ca cl.length cc, .slice pa pl.length pc] 56, hp.below hba, fun h0 => by
          rcases hr.form with ⟨_, e⟩ | ⟨g, c', e, _, hg, hlt⟩
          · rw [e] at h0; simp at h0
          · injection e with e1 e2 e3
            subst e1
            exact ⟨g, rfl, recsW_of (hr.below hba) (fun _ _ => trivial), hlt, hg, fun k hk e => hse g rfl (e ▸ hk)⟩, fun k hk => (World.ownsRow.lt hp k hk).2, hb5⟩
        have HCL := Lib.hid hcl
        have HPL := Lib.hid hpl
        clear hr hp hse hb4 hcl hpl hno hba hb5 KT
        go_upto_region 9 with fail
        generalize w4.alloc (.cells #[.int .i64 i0, .int .i64 i1, .int .i64 i2, .int .i64 i3, .int .i64 i4, .slice ca cl.length cc, .slice pa pl.length pc] 56) = w5 at *
        generalize w4.heap.size = bx at *
        go_wp2
        go_loopw [9] (fun i X => ∃ j : Nat, j ≤ cl.length ∧ i = .int .i64 j ∧ Lp2 w3 bx [.int .i64 i0, .int .i64 i1, .int .i64 i2, .int .i64 i3, .int .i64 i4, .slice ca cl.length cc, .slice pa pl.length pc] ca pa cc pc cl pl X) (fun i _ => cl.length - (intOf i).toNat)
        case atStart => exact ⟨0, Nat.zero_le _, rfl, L2.out⟩
        case round =>
          obtain ⟨j, hj, rfl, hS⟩ := hrel
          have LK := Lib.hid hS
          clear hS L2
          have x5 := LK.out.box.at' 5 _ rfl
          have hcl := HCL.out
          have hn60 := HN.out
          by_cases hlt : j < cl.length
          · obtain ⟨g, rfl, hrw, _, _, _⟩ := LK.out.rows (by omega)
            obtain ⟨r, _, hr⟩ := hrw.all j hlt
            have e0 := hr 0 _ rfl
            have e1 := hr 1 _ rfl
            have e2 := hr 2 _ rfl
            have e3 := hr 3 _ rfl
            have e4 := hr 4 _ rfl
            have e5 := hr 5 _ rfl
            have e6 := hr 6 _ rfl
            have e7 := hr 7 _ rfl
            have e8 := hr 8 _ rfl
            have e9 := hr 9 _ rfl
            have e10 := hr 10 _ rfl
            have ef := hrw.fz
            have LN := Lib.hid (LK.out.set rfl hlt)
            simp only [Nat.add_zero] at e0
            clear hrw hr LK
            go_wp2
            go_roundw
            case rel => exact ⟨j + 1, by omega, by go_num, LN.out⟩
            case measure => simp [intOf]; omega
          · obtain rfl : j = cl.length := by omega
            have L3 := Lib.hid LK.out.lp3
            clear LK
            rename World => w6
            go_upto_region 13 with fail
            clear x5
            go_wp2
            go_loopw [10] (fun i X => ∃ j : Nat, j ≤ pl.length ∧ i = .int .i64 j ∧ Lp3 w3 bx [.int .i64 i0, .int .i64 i1, .int .i64 i2, .int .i64 i3, .int .i64 i4, .slice ca cl.length cc, .slice pa pl.length pc] pa pl X) (fun i _ => pl.length - (intOf i).toNat)
            case atStart => exact ⟨0, Nat.zero_le _, rfl, L3.out⟩
            case round =>
              obtain ⟨j, hj, rfl, hS⟩ := hrel
              have LK := Lib.hid hS
              clear hS L3
              have x6 := LK.out.box.at' 6 _ rfl
              have hpl := HPL.out
              have hn60 := HN.out
              by_cases hlt : j < pl.length
              · obtain ⟨g, rfl, hrw, _, _⟩ := LK.out.rows (by omega)
                obtain ⟨u, hu⟩ := hrw.all j hlt
                have ef := hrw.fz
                have LN := Lib.hid (LK.out.set (i := j * 2) rfl (by omega) (.int .i64 (-1)))
                clear hrw LK
                go_wp2
                go_roundw
                case rel => exact ⟨j + 1, by omega, by go_num, LN.out⟩
                case measure => simp [intOf]; omega
              · obtain rfl : j = pl.length := by omega
                have BX := Lib.hid LK.out.below
                clear LK
                rename World => w7
                have HT7 := Lib.hid (HT.out.below BX.out)
                have KB := Lib.hid (tback_own HT7.out id hid HI.out HN.out)
                go_upto_region 17 with fail
                clear x6
                go_wp2_with fail
                refine KB.out.mono ?_
                rintro x w8 ⟨ba, bc, rfl, hr, hb8⟩
                have L4 := Lib.hid (lp4_of BX.out hr (nB_two HI.out id) hb8)
                have HNB : Hid ((nB (absM m) id).length ≤ 1000) := Nat.le_trans (nB_len HI.out id) HN.out
                have TWO := Lib.hid (nB_two HI.out id)
                clear hr hb8 KB BX HT7
                go_wp2
                go_loopw [13] (fun i X => ∃ j : Nat, j ≤ (nB (absM m) id).length ∧ i = .int .i64 j ∧ Lp4 w3 ba (nB (absM m) id).length j X) (fun i _ => (nB (absM m) id).length - (intOf i).toNat)
                case atStart => exact ⟨0, Nat.zero_le _, rfl, L4.out⟩
                case round =>
                  obtain ⟨j, hj, rfl, hS⟩ := hrel
                  have LK := Lib.hid hS
                  clear hS L4
                  have hnb := HNB.out
                  by_cases hlt : j < (nB (absM m) id).length
                  · obtain ⟨g, rfl, hrw, _⟩ := LK.out.rows (by omega)
                    obtain ⟨r, hr2, hr⟩ := hrw.all j hlt
                    replace hr2 := hr2 (Nat.le_refl _)
                    obtain ⟨rk, rg, rt, rp, rpg, rkey, rhb, rsb, rha, rsa, ru⟩ := r
                    simp only at hr2
                    subst hr2
                    have e0 := hr 0 _ rfl
                    have e1 := hr 1 _ rfl
                    have e2 := hr 2 _ rfl
                    have e3 := hr 3 _ rfl
                    have e4 := hr 4 _ rfl
                    have e5 := hr 5 _ rfl
                    have e6 := hr 6 _ rfl
                    have e7 := hr 7 _ rfl
                    have e8 := hr 8 _ rfl
                    have e9 := hr 9 _ rfl
                    have e10 := hr 10 _ rfl
                    have ef := hrw.fz
                    have LN := Lib.hid (LK.out.set rfl hlt)
                    simp only [Nat.add_zero] at e0
                    have hq := fun X => eq_rc 2 rg rt rp rpg ru 0 0 0 0 0 0 rkey rsb rsa ⟨#[]⟩ ⟨#[]⟩ ⟨#[]⟩ rhb rha false false X
                    rw [eqB_two] at hq
                    clear hrw hr LK
                    go_wp2
                    go_roundw
                    case rel => exact ⟨j + 1, by omega, by go_num, LN.out⟩
                    case measure => simp [intOf]; omega
                  · obtain rfl : j = (nB (absM m) id).length := by omega
                    have BX := Lib.hid LK.out.below
                    clear LK
                    rename World => w9
                    have HT9 := Lib.hid (HT.out.below BX.out)
                    have KB := Lib.hid (tback_own HT9.out id hid HI.out HN.out)
                    go_upto_region 24 with fail
                    go_wp2_with fail
                    refine KB.out.mono ?_
                    rintro x w10 ⟨da, dc, rfl, hr, hb8⟩
                    have RC := Lib.hid hr
                    have BY := Lib.hid (BX.out.trans (hb8.mono BX.out.size))
                    have HT10 := Lib.hid (HT.out.below BY.out)
                    have KT := Lib.hid (tget_own HT10.out id hid HI.out HN.out)
                    clear hr hb8 KB BX HT9
                    go_upto_region 25 with fail
                    go_wp2_with fail
                    refine KT.out.mono ?_
                    rintro x w11 ⟨y0, y1, y2, y3, y4, ya, yb, yc, yd, yl, ypl, rfl, hr, hp, _, hb11, _, hypl, hno⟩
                    have hba := (Below.refl w11.heap.size w11).alloc (Nat.le_refl _) (.cells #[.int .i64 y0, .int .i64 y1, .int .i64 y2, .int .i64 y3, .int .i64 y4, .slice ya yl.length yc, .slice yb ypl.length yd] 56)
                    have hb12 := hb11.trans (hba.mono hb11.size)
                    have x6 : (w11.alloc (.cells #[.int .i64 y0, .int .i64 y1, .int .i64 y2, .int .i64 y3, .int .i64 y4, .slice ya yl.length yc, .slice yb ypl.length yd] 56)).cell? ⟨w11.heap.size, 6, none⟩ = some (.slice yb ypl.length yd) := new_cell rfl rfl
                    have RC2 := Lib.hid (RC.out.below hb12)
                    have RP := Lib.hid (hp.below hba)
                    have BZ := Lib.hid (BY.out.trans (hb12.mono BY.out.size))
                    have HYP := Lib.hid hypl
                    have HNO := Lib.hid hno
                    clear hr hp hb11 hypl hno hba hb12 KT RC BY HT10
                    go_upto_region 26 with fail
                    generalize w11.alloc (.cells #[.int .i64 y0, .int .i64 y1, .int .i64 y2, .int .i64 y3, .int .i64 y4, .slice ya yl.length yc, .slice yb ypl.length yd] 56) = w12 at *
                    generalize w11.heap.size = by0 at *
                    have X6 := Lib.hid x6
                    clear x6
                    go_wp2
                    go_loopw [18] (fun i X => ∃ j : Nat, j ≤ (nB (absM m) id).length ∧ i = .int .i64 j ∧ X = w12) (fun i _ => (nB (absM m) id).length - (intOf i).toNat)
                    case atStart => exact ⟨0, Nat.zero_le _, rfl, rfl⟩
                    case round =>
                      obtain ⟨j, hj, rfl, rfl⟩ := hrel
                      have hnb := HNB.out
                      by_cases hlt : j < (nB (absM m) id).length
                      · obtain ⟨g, rfl⟩ : ∃ g, da = some ⟨g, 0, none⟩ := by
                          rcases RC2.out.form with ⟨_, e⟩ | ⟨g, c', e, _⟩
                          · rw [e] at hlt; simp at hlt
                          · injection e with e1 _ _
                            exact ⟨g, e1⟩
                        obtain ⟨r, hr2, hr⟩ := (recsW_of (P := fun _ r => r.k = 2) RC2.out (fun j hj => by
                          rw [List.getD_eq_getElem?_getD, List.getElem?_eq_getElem hj]
                          exact TWO.out _ (List.getElem_mem hj))).all j hlt
                        obtain ⟨rk, rg, rt, rp, rpg, rkey, rhb, rsb, rha, rsa, ru⟩ := r
                        simp only at hr2
                        subst hr2
                        have e0 := hr 0 _ rfl
                        have e1 := hr 1 _ rfl
                        have e2 := hr 2 _ rfl
                        have e3 := hr 3 _ rfl
                        have e4 := hr 4 _ rfl
                        have e5 := hr 5 _ rfl
                        have e6 := hr 6 _ rfl
                        have e7 := hr 7 _ rfl
                        have e8 := hr 8 _ rfl
                        have e9 := hr 9 _ rfl
                        have e10 := hr 10 _ rfl
                        simp only [Nat.add_zero] at e0
                        have hq := fun X => eq_rc 2 rg rt rp rpg ru 0 0 0 0 0 0 rkey rsb rsa ⟨#[]⟩ ⟨#[]⟩ ⟨#[]⟩ rhb rha false false X
                        rw [eqB_two] at hq
                        clear hr
                        go_wp2
                        go_roundw
                        case rel => first | exact ⟨j + 1, by omega, by go_num, rfl⟩ | exact ⟨j + 1, by omega, by go_num, trivial⟩ | exact ⟨j + 1, by omega, by go_num⟩
                        case measure => simp [intOf]; omega
                      · obtain rfl : j = (nB (absM m) id).length := by omega
                        rename World => w13
                        go_upto_region 31 with fail
                        have x6 := X6.out
                        have hypl := HYP.out
                        have hn60 := HN.out
                        go_wp2
                        go_loopw [19] (fun i X => ∃ j : Nat, j ≤ ypl.length ∧ i = .int .i64 j ∧ X = w13) (fun i _ => ypl.length - (intOf i).toNat)
                        case atStart => exact ⟨0, Nat.zero_le _, rfl, rfl⟩
                        case round =>
                          obtain ⟨j, hj, rfl, rfl⟩ := hrel
                          by_cases hlt : j < ypl.length
                          · obtain ⟨g, rfl⟩ : ∃ g, yb = some ⟨g, 0, none⟩ := by
                              rcases RP.out.form with ⟨_, e⟩ | ⟨g, c', e, _⟩
                              · rw [e] at hlt; simp at hlt
                              · injection e with e1 _ _
                                exact ⟨g, e1⟩
                            have hz := (PlcR.cell RP.out j hlt).1
                            have hzp : 0 ≤ (ypl.getD j noPl).1 := by
                              rw [List.getD_eq_getElem?_getD, List.getElem?_eq_getElem hlt]
                              exact HNO.out _ (List.getElem_mem hlt)
                            generalize (ypl.getD j noPl).1 = z at hz hzp
                            have hzn : ¬ z < 0 := by omega
                            clear hzp
                            go_wp2
                            go_roundw
                            case rel => first | exact ⟨j + 1, by omega, by go_num, rfl⟩ | exact ⟨j + 1, by omega, by go_num, trivial⟩ | exact ⟨j + 1, by omega, by go_num⟩
                            case measure => simp [intOf]; omega
                          · obtain rfl : j = ypl.length := by omega
                            have BF := Lib.hid (B1.out.trans ((HB3.out.trans (BZ.out.mono HB3.out.size)).mono B1.out.size))
                            go_wp2
                            go_ret
                            exact ⟨rfl, BF.out⟩
  · clear hs KG
    go_wp2_with fail
    refine (KA.out _).mono ?_
    rintro x w1 ⟨rfl, hb1⟩
    have B1 := Lib.hid hb1
    clear hb1
    go_wp2
    go_ret
    exact ⟨rfl, B1.out⟩
end Go.Proofs.Ytophbefmlfieeaa
