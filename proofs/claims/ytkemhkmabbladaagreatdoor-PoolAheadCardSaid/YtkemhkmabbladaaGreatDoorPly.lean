/-
  A FRAME LESS: delete of the map of frames; idle.
  THE CONTRACT OF pool's makeRoom, of any pool (whom it drops is left open).
  THE CONTRACT OF pool's Get of a page that isn't at hand, of any pool (whom it drops is left open).
  THE CONTRACT OF pool's Evict, of any numbers.
-/
import Derived.Test.YtkemhkmabbladaaGreatDoorPlx
import Derived.Deep.Cut
import Derived.Deep.CutRange
import Derived.Deep.DeepCutAuto
import Derived.Test.YtkemhkmabbladaaGreatDoorPlz
namespace Go.Proofs.YtkemhkmabbladaaGreatDoor
open Go.RowKit Go.Maps Go.ChangeMaps Go.MapKept Go.WideElems
theorem FrAt.drop {W : World} {M n : Nat} {o : Int → Option Nat} (h : FrAt W M n o) (i : Int) (hi : (Lit.int .i64 i).wf = true) (ty : TypeId) :
    ∃ W', (Builtin.delete_ #[56, 3] ty #[.map (some M), .int .i64 i]).run Tryz.prog W = .ok (.tuple #[]) W' ∧ FrAt W' M n (updF o i none) ∧ W.grownBy W' (some M) ∧ W'.heap.size = W.heap.size := by
  obtain ⟨D, h1, h2, h3⟩ := h
  have hk := keyOf_int_mk (P := Tryz.prog) Tryz.underlying3 hi
  obtain ⟨W', hrun, hown, hg⟩ := h1.drop pl_key Tryz.underlying56 hk ty
  refine ⟨W', hrun, ⟨_, hown, fun k => ?_, fun k => ?_⟩, hg.grown, ?_⟩
  · unfold updF
    by_cases e : k = i
    · subst e
      rw [atKey_del_same, if_pos rfl]; rfl
    · rw [atKey_del_other (by intro x; injection x with _ x; exact e x), if_neg e]; exact h2 k
  · unfold updF
    by_cases e : k = i
    · subst e
      rw [has_del_same, if_pos rfl]; rfl
    · rw [has_del_other (by intro x; injection x with _ x; exact e x), if_neg e]; exact h3 k
  · obtain ⟨es, clock, es', clock', hb, hw⟩ := hg
    rw [hw]; simp [setBlock]
section
variable {w W X : World} {D P L M n B T np Q room MF k : Nat} {now : Nat → Pg} {o : Int → Option Nat} {fv : Int → FrD}
/-- A frame less. -/
theorem PlS.drop {k' : Nat} (h : PlS w W D P L M n B T np now Q room MF k o fv) (no : Int) (hg : W.grownBy X (some MF)) (hm : FrAt X MF k' (updF o no none)) : PlS w X D P L M n B T np now Q room MF k' (updF o no none) fv := by
  obtain ⟨l1, l2, l3⟩ := h.lts
  obtain ⟨⟨v1, c1⟩, ⟨v2, c2⟩⟩ := h.tk.cells
  have mD := map_ne h.mp c1
  have mT := map_ne h.mp c2
  have key : ∀ c, c < W.heap.size → MF ≠ c → X.heap[c]? = W.heap[c]? := fun c hc hx => hg.block c hc (by intro e; injection e with e; exact hx e.symm)
  have hQ := key Q l1 (fun e => h.qs.2.2.2 e.symm)
  have row_ne : ∀ {r : Nat} {y : FrD}, RowC W 0 y.v y.l → y.v.ownBlock = some r → MF ≠ r := fun {r y} hrow hr q => by
    subst q
    rcases hrow.2 with ⟨hv, _⟩ | ⟨g, cap, cur, hv, _, hc, _⟩
    · rw [hv] at hr; cases hr
    · rw [hv] at hr
      have : g = MF := by simpa [Value.ownBlock] using hr
      subst this
      obtain ⟨D0, ⟨es, clock, hb, _⟩, _⟩ := h.mp
      rw [hc] at hb; cases hb
  have hcase : ∀ i F', updF o no none i = some F' → o i = some F' := fun i F' e => by
    unfold updF at e; split at e
    · cases e
    · exact e
  exact { h with
    tk := h.tk.write hg mD h.ms.1 h.ms.2.1 h.ms.2.2 mT h.lo.2.1
    q0 := (World.cell?_of_block (a := ⟨Q, 0, none⟩) hQ).trans h.q0
    q1 := (World.cell?_of_block (a := ⟨Q, 1, none⟩) hQ).trans h.q1
    q2 := (World.cell?_of_block (a := ⟨Q, 2, none⟩) hQ).trans h.q2
    mp := hm
    fr := fun i F' e' => by
      have e := hcase i F' e'
      exact (h.fr i F' e).of_blocks (key F' (l3 i F' e) (fun q => (h.fs i F' e).2.2.2.2 q.symm)) (fun r q => key r (row_lt (h.fr i F' e).row q) (row_ne (h.fr i F' e).row q))
    fs := fun i F' e' => h.fs i F' (hcase i F' e')
    rs := fun i F' r e' hr => ⟨(h.rs i F' r (hcase i F' e') hr).1, fun j F'' q => (h.rs i F' r (hcase i F' e') hr).2 j F'' (hcase j F'' q)⟩
    inj := fun i j F' e1 e2 => h.inj i j F' (hcase i F' e1) (hcase j F' e2)
    lo := ⟨h.lo.1, h.lo.2.1, fun i F' e' => h.lo.2.2 i F' (hcase i F' e')⟩
    keys := fun i e' => by
      unfold updF at e'; split at e'
      · cases e'
      · exact h.keys i e' }
theorem idle_any (h : PlS w W D P L M n B T np now Q room MF k o fv) {i : Int} {F : Nat} (e : o i = some F) : Calls Tryz.prog 51 #[.pointer (some ⟨F, 0, none⟩)] W fun x w' => x = .returned (.bool (!decide (0 < (fv i).first) && decide ((fv i).pins = 0))) ∧ W = w' := by
  have KD := Lib.hid (dirty_any h e)
  have f1 := (h.fr i F e).f1
  clear h e
  generalize (fv i).pins = pn at *
  generalize decide (0 < (fv i).first) = d at *
  have hpp : (pn == 0) = decide (pn = 0) := by by_cases q : pn = 0 <;> simp [q]
  go_enter Tryz.func51, Tryz.ntmps51
  go_wp2_with fail
  all_goals (first | (refine KD.out.mono ?_; rintro x w5 ⟨rfl, rfl⟩) | skip)
  all_goals go_wp2
  all_goals go_ret
  all_goals exact ⟨by cases d <;> simp_all, rfl⟩
end
end Go.Proofs.YtkemhkmabbladaaGreatDoor

namespace Go.Proofs.YtkemhkmabbladaaGreatDoor
open Go.RowKit
section
variable {w W X : World} {D P L M n B T np Q room MF k : Nat} {now : Nat → Pg} {o : Int → Option Nat} {fv : Int → FrD}
/-- What makeRoom leaves: some of the frames. -/
def RoomP (w : World) (D P L M n B T np : Nat) (now : Nat → Pg) (Q room MF k : Nat) (o : Int → Option Nat) (fv : Int → FrD) (W : World) (x : Ending) (w' : World) : Prop :=
  (∃ b : Bool, x = .returned (.bool b)) ∧ (∃ o2, PlS w w' D P L M n B T np now Q room MF k o2 fv ∧ ∀ i F, o2 i = some F → o i = some F) ∧ (∀ b, b < W.heap.size → b ≠ MF → w'.heap[b]? = W.heap[b]?) ∧ W.heap.size ≤ w'.heap.size
set_option maxRecDepth 100000 in
set_option maxHeartbeats 4000000 in
theorem room_any (h : PlS w W D P L M n B T np now Q room MF k o fv) {ks : List Int} (hk : KeysOf o ks) (hwf : ∀ i ∈ ks, (Lit.int .i64 i).wf = true) :
    Calls Tryz.prog 41 #[.pointer (some ⟨Q, 0, none⟩)] W (RoomP w D P L M n B T np now Q room MF k o fv W) := by
  obtain ⟨c, hc, hlen⟩ := h.mp.lens
  have q1 := h.q1
  have q2 := h.q2
  have hlen2 : ∀ q ty, (Builtin.len_ #[56] ty #[.map (some MF)]).run Tryz.prog (W.drewN q) = .ok (.int .i64 (c : Int)) (W.drewN q) := fun q ty => hlen _ ty rfl
  have few := hk.few
  have KH := Lib.hid (fun (q : Nat) => held_any (h.below (below_drewN (Below.refl W.heap.size W) q)) hk)
  have HK := Lib.hid hk
  have HH := Lib.hid h
  have HWF := Lib.hid hwf
  obtain ⟨m, hm⟩ : ∃ m, m = ks.length := ⟨_, rfl⟩
  have HM := Lib.hid hm
  rw [← hm] at few KH
  clear h hk hwf hlen hm
  by_cases hcr : c < room
  · have hcr2 : (c : Int) < (room : Int) := by omega
    clear KH
    go_enter Tryz.func41, Tryz.ntmps41
    go_wp2_with fail
    go_quiet (fail)
    go_wp2
    go_ret
    have hb := below_drewN (Below.refl W.heap.size W) nq
    exact ⟨⟨_, rfl⟩, ⟨o, HH.out.below hb, fun i F e => e⟩, fun b hb2 _ => hb.block b hb2, hb.size⟩
  · have hcr2 : (room : Int) ≤ (c : Int) := by omega
    go_enter Tryz.func41, Tryz.ntmps41
    go_wp2_with fail
    go_quiet (fail)
    have hbq := below_drewN (Below.refl W.heap.size W) nq
    have KH1 := Lib.hid (KH.out nq)
    have HH1 := Lib.hid (HH.out.below hbq)
    clear KH hlen2 q1 q2
    generalize W.drewN nq = V at *
    go_wp2_with fail
    refine KH1.out.mono ?_
    rintro x w1 ⟨a, cc, rfl, hir, _, hb1⟩
    have H1 := Lib.hid (HH1.out.below hb1)
    have HB1 := Lib.hid (hbq.trans (hb1.mono hbq.size))
    have HIR := Lib.hid hir
    have q2 := H1.out.q2
    clear KH1 HH1 hb1 hbq hir hcr2
    go_wp2
    go_loopw [18] (fun i wr => ∃ j : Nat, j ≤ m ∧ i = .int .i64 j ∧ wr = w1) (fun i _ => m - (intOf i).toNat)
    case atStart => exact ⟨0, Nat.zero_le _, rfl, rfl⟩
    case round =>
      obtain ⟨j, hj, rfl, rfl⟩ := hrel
      by_cases hlt : j < m
      · rcases HIR.out with hnil | ⟨b, off, rfl, hcs⟩
        · have := HM.out; rw [hnil] at this; exact absurd hlt (by rw [this]; simp)
        have hjk : j < ks.length := by rw [← HM.out]; exact hlt
        have hc0 := hcs j hjk
        obtain ⟨x, hx⟩ : ∃ x, x = ks.getD j 0 := ⟨_, rfl⟩
        have hxm : x ∈ ks := by rw [hx, List.getD_eq_getElem?_getD, List.getElem?_eq_getElem hjk]; exact List.getElem_mem hjk
        rw [← hx] at hc0
        clear hcs hx
        have hxw := HWF.out x hxm
        obtain ⟨F, hF⟩ := Option.isSome_iff_exists.1 ((HK.out.mem x).1 hxm)
        have lk := H1.out.mp.look x hxw
        rw [hF, show frV (some F) = Value.pointer (some ⟨F, 0, none⟩) from rfl] at lk
        have KI := Lib.hid (idle_any H1.out hF)
        obtain ⟨W2, hd, h2, hg2, _⟩ := H1.out.mp.drop x hxw 0
        have HP2 := Lib.hid (H1.out.drop x hg2 h2)
        have HG2 := Lib.hid hg2
        have hj1 : (j : Int) < (m : Int) := by omega
        clear hxm h2 hg2
        go_wp2_with fail
        refine KI.out.mono ?_
        rintro e w5 ⟨rfl, rfl⟩
        clear KI
        generalize (!decide (0 < (fv x).first) && decide ((fv x).pins = 0)) = bb at *
        cases bb with
        | true =>
          go_wp2
          go_ret
          exact ⟨⟨_, rfl⟩, ⟨_, HP2.out, fun i F' e => by
            unfold updF at e; split at e
            · cases e
            · exact e⟩, fun b2 hb2 hne => (HG2.out.block b2 (Nat.lt_of_lt_of_le hb2 HB1.out.size) (fun e => by injection e with e; exact hne e)).trans (HB1.out.block b2 hb2), Nat.le_trans HB1.out.size HG2.out.size⟩
        | false =>
          clear hd
          go_wp2
          go_roundw
          case rel => exact ⟨j + 1, by omega, by go_num, by first | trivial | rfl⟩
          case measure => simp [intOf]; omega
      · have hj1 : (m : Int) ≤ (j : Int) := by omega
        go_wp2
        go_ret
        exact ⟨⟨_, rfl⟩, ⟨o, H1.out, fun i F e => e⟩, fun b2 hb2 _ => HB1.out.block b2 hb2, HB1.out.size⟩
end
end Go.Proofs.YtkemhkmabbladaaGreatDoor

namespace Go.Proofs.YtkemhkmabbladaaGreatDoor
open Go.RowKit
section
variable {w W X : World} {D P L M n B T np Q room MF k : Nat} {now : Nat → Pg} {o : Int → Option Nat} {fv : Int → FrD}
theorem row_not_map {W : World} {MF k B r : Nat} {o : Int → Option Nat} {v : Value} {l : List (ByteArray × ByteArray)} (hm : FrAt W MF k o) (hrow : RowC W B v l) (hr : v.ownBlock = some r) : r ≠ MF := fun q => by
  subst q
  rcases hrow.2 with ⟨hv, _⟩ | ⟨g, cap, cur, hv, _, hc, _⟩
  · rw [hv] at hr; cases hr
  · rw [hv] at hr
    have : g = r := by simpa [Value.ownBlock] using hr
    subst this
    obtain ⟨D0, ⟨es, clock, hb, _⟩, _⟩ := hm
    rw [hc] at hb; cases hb
/-- What Get answers of a page that isn't at hand, and what it leaves. -/
def GetA (w : World) (D P L M n B T np : Nat) (now : Nat → Pg) (Q room MF k : Nat) (o : Int → Option Nat) (fv : Int → FrD) (W : World) (no : Nat) (x : Ending) (w' : World) : Prop :=
  (GetP W no (now no).1 (now no).2 x w' ∧ ∃ o2 F v, (∀ i F, o2 i = some F → o i = some F) ∧ PlS w w' D P L M n B T np now Q room MF (k + 1) (updF o2 no (some F)) (updV fv no ⟨(now no).1, v, (now no).2, 0, 0⟩)) ∨
  (∃ e : Int, e ≠ 0 ∧ x = .returned (.tuple #[.agg #[.int .i64 0, .int .i64 0, .slice none 0 0], .int .i64 e]) ∧ ∃ o2, (∀ i F, o2 i = some F → o i = some F) ∧ PlS w w' D P L M n B T np now Q room MF k o2 fv)
set_option maxRecDepth 100000 in
set_option maxHeartbeats 4000000 in
theorem get_any (h : PlS w W D P L M n B T np now Q room MF k o fv) {ks : List Int} (hks : KeysOf o ks) (hwfs : ∀ i ∈ ks, (Lit.int .i64 i).wf = true) (hkm : k ≤ 1000) (hn : n ≤ 4096) (hfit : 5 + 4 * np ≤ n) (no : Nat) (hno : no < np) (e : o (no : Int) = none) (hsm : (now no).2.length ≤ 1000) :
    Calls Tryz.prog 13 #[.pointer (some ⟨Q, 0, none⟩), .int .i64 (no : Int)] W (GetA w D P L M n B T np now Q room MF k o fv W no) := by
  have hb0 := (Below.refl W.heap.size W).alloc (Nat.le_refl _) (.cells #[.int .i64 0, .int .i64 0, .slice none 0 0] 36)
  have HR0 := Lib.hid (tkR_new W 36)
  have hwf : (Lit.int .i64 (no : Int)).wf = true := WalkArith.wf_i64 (by omega)
  have h0 := h.below hb0
  have q0 := h0.q0
  have q2 := h0.q2
  have lk := h0.mp.lookOk no hwf
  rw [e] at lk
  rw [show frV none = Value.pointer none from rfl, show (none : Option Nat).isSome = false from rfl] at lk
  have KP := Lib.hid (c_page h0.tk (by intro x; cases x) hn hfit no hno)
  have H0 := Lib.hid h0
  have HE := Lib.hid e
  have HB0 := Lib.hid hb0
  obtain ⟨g, hg⟩ : ∃ g, g = (now no).1 := ⟨_, rfl⟩
  obtain ⟨l, hl⟩ : ∃ l, l = (now no).2 := ⟨_, rfl⟩
  rw [← hg, ← hl] at KP
  rw [← hl] at hsm
  have HG := Lib.hid hg
  have HLL := Lib.hid hl
  have LT : Hid (P < W.heap.size ∧ L < W.heap.size ∧ M < W.heap.size ∧ Q < W.heap.size ∧ (∀ i F, o i = some F → F < W.heap.size) ∧ (∀ i F r, o i = some F → (fv i).v.ownBlock = some r → r < W.heap.size) ∧ w.heap.size ≤ W.heap.size ∧ W.heap.size < (W.alloc (.cells #[.int .i64 0, .int .i64 0, .slice none 0 0] 36)).heap.size) := ⟨h.tk.lts.1, h.tk.lts.2.1, h.tk.lts.2.2, h.lts.1, h.lts.2.2, fun i F r e hr => row_lt (h.fr i F e).row hr, h.bw.size, by simp⟩
  clear h h0 e hg hl
  go_enter Tryz.func13, Tryz.ntmps13
  go_upto_region 1 with fail
  generalize W.alloc (.cells #[.int .i64 0, .int .i64 0, .slice none 0 0] 36) = X0 at *
  go_wp2_with fail
  refine KP.out.mono ?_
  rintro x w1 ⟨hg0, a, c, rfl, hrow, hb1⟩
  have HR1 := Lib.hid (HR0.out.below hb1)
  have H1 := Lib.hid (H0.out.below hb1)
  have HRW1 := Lib.hid hrow
  have HX1 := Lib.hid hb1
  clear KP HR0 H0 q0 q2 lk hrow hb1
  go_upto_region 7 with fail
  have hby := (Below.refl w1.heap.size w1).alloc (Nat.le_refl _) (.cells #[.int .i64 (no : Int), .int .i64 g, .slice a l.length c] 36)
  have HX := Lib.hid (Pg3.new w1 36 (no : Int) g (.slice a l.length c) [])
  have HR2 := Lib.hid (HR1.out.below hby)
  have H2 := Lib.hid (H1.out.below hby)
  have HRW2 := Lib.hid (HRW1.out.below hby)
  have HBY := Lib.hid (HX1.out.trans (hby.mono HX1.out.size))
  obtain ⟨XB, hXB⟩ : ∃ XB, XB = w1.heap.size := ⟨_, rfl⟩
  have HXB := Lib.hid hXB
  rw [← hXB] at HX ⊢
  clear hby HR1 H1 HRW1 HX1 hXB
  generalize w1.alloc (.cells #[.int .i64 (no : Int), .int .i64 g, .slice a l.length c] 36) = Y at *
  have KM := Lib.hid (room_any H2.out hks hwfs)
  have hXM : XB ≠ MF := fun e => map_ne H2.out.mp HX.out.p0 e.symm
  have hRM : W.heap.size ≠ MF := fun e => map_ne H2.out.mp HR2.out.r0 e.symm
  go_wp2_with fail
  refine KM.out.mono ?_
  rintro x w2 ⟨⟨bb, rfl⟩, ⟨o2, h3, hsub⟩, hkp, hszY⟩
  have HX3 := Lib.hid (HX.out.of_block (hkp XB HX.out.lt hXM))
  have hkR := hkp W.heap.size (Dv.block_lt HR2.out.r0) hRM
  have HR3 := Lib.hid ((Pg3.mk HR2.out.r0 HR2.out.r1 HR2.out.r2 HR2.out.rf : Pg3 Y W.heap.size 0 0 (.slice none 0 0)).of_block hkR)
  have H3 := Lib.hid h3
  have HRW3 := Lib.hid (row_block (HRW2.out.base (Nat.zero_le _)) (fun r hr => hkp r (row_lt HRW2.out hr) (row_not_map H2.out.mp HRW2.out hr)))
  have HROW := Lib.hid (fun r (hr : (Value.slice a l.length c).ownBlock = some r) => (⟨(World.ownsRow.lt HRW2.out r hr).1, Nat.lt_of_lt_of_le (World.ownsRow.lt HRW2.out r hr).2 hszY⟩ : X0.heap.size ≤ r ∧ r < w2.heap.size))
  have HZ2 : Hid (X0.heap.size ≤ w2.heap.size) := Nat.le_trans HBY.out.size hszY
  have he2 : o2 (no : Int) = none := by
    cases q : o2 (no : Int) with
    | none => rfl
    | some F => have := hsub _ _ q; rw [HE.out] at this; cases this
  have HE2 := Lib.hid he2
  clear he2
  clear h3 hkp HX HR2 H2 HRW2 HBY KM hkR hks hwfs hszY hXM hRM
  cases bb with
  | false =>
    obtain ⟨r0, r1, r2, rf⟩ := HR3.out
    go_wp2
    obtain ⟨Z, hZ, x0, x1, x2, _, hgZ⟩ := set3 (B := 0) (v0 := .int .i64 0) (v1 := .int .i64 0) (v2 := .slice none 0 0) (Below.refl 0 w2) (Nat.zero_le _) r0 r1 r2
    rw [← hZ]
    obtain ⟨s1, s2, s3, s4, s5, s7, s8, s6⟩ := LT.out
    have hzz := H3.out.other hgZ ⟨by omega, by omega, by omega⟩ ⟨_, r0⟩ (fun i F e => by have := s5 i F (hsub i F e); omega) (fun i F r e hr => by have := s7 i F r (hsub i F e) hr; omega) s8
    refine bodyPost_ret (v := .tuple #[.agg #[.int .i64 0, .int .i64 0, .slice none 0 0], .int .i64 4]) ?_ rfl (.inr ⟨_, by decide, rfl, o2, hsub, hzz⟩)
    simp [results, Tryz.results13, go_sem, x0, x1, x2]
  | true =>
    go_upto_region 11 with fail
    have q2 := H3.out.q2
    obtain ⟨p0, p1, p2, _⟩ := HX3.out
    have hba := (Below.refl w2.heap.size w2).alloc (Nat.le_refl _) (.cells #[.int .i64 (no : Int), .int .i64 g, .slice a l.length c, .int .i64 0, .int .i64 0] 94)
    have H4 := H3.out.below hba
    have hF := Pg3.new w2 94 (no : Int) g (.slice a l.length c) [.int .i64 0, .int .i64 0]
    have f3 : (w2.alloc (.cells #[.int .i64 (no : Int), .int .i64 g, .slice a l.length c, .int .i64 0, .int .i64 0] 94)).cell? ⟨w2.heap.size, 3, none⟩ = some (.int .i64 0) := Dv.new_cell rfl rfl
    have f4 : (w2.alloc (.cells #[.int .i64 (no : Int), .int .i64 g, .slice a l.length c, .int .i64 0, .int .i64 0] 94)).cell? ⟨w2.heap.size, 4, none⟩ = some (.int .i64 0) := Dv.new_cell rfl rfl
    have r4 := HRW3.out.below hba
    have e0 := Dv.keep_cell hba p0
    have e1 := Dv.keep_cell hba p1
    have e2 := Dv.keep_cell hba p2
    have eq2 := Dv.keep_cell hba q2
    obtain ⟨W5, hst, hm5, hg5, hz5⟩ := (FrAt.of_block (W' := (w2.alloc (.cells #[.int .i64 (no : Int), .int .i64 g, .slice a l.length c, .int .i64 0, .int .i64 0] 94)).drew) H4.mp rfl).store (no : Int) hwf w2.heap.size (by unfold maxLen; omega)
    clear H4 hF f3 f4 r4 hba hz5
    go_region
    obtain ⟨W4, hW4⟩ : ∃ W4, W4 = (w2.alloc (.cells #[.int .i64 (no : Int), .int .i64 g, .slice a l.length c, .int .i64 0, .int .i64 0] 94)).drew := ⟨_, rfl⟩
    have hb4 : Below w2.heap.size w2 W4 := by rw [hW4]; exact ((Below.refl _ _).alloc (Nat.le_refl _) _).drew
    have hfr : FrIs W4 w2.heap.size (no : Int) ⟨g, .slice a l.length c, l, 0, 0⟩ := by
      rw [hW4]
      exact ⟨⟨Dv.new_cell rfl rfl, Dv.new_cell rfl rfl, Dv.new_cell rfl rfl, fun _ => World.frozen?_alloc_at _ _ _ _ rfl⟩, Dv.new_cell rfl rfl, Dv.new_cell rfl rfl, ((HRW3.out.below ((Below.refl _ _).alloc (Nat.le_refl _) _)).base (Nat.le_refl _)), hsm⟩
    have h4 : PlS w W4 D P L M n B T np now Q room MF k o2 fv := H3.out.below hb4
    rw [← hW4] at hst hg5
    obtain ⟨s1, s2, s3, s4, s5, s7, s8, s6⟩ := LT.out
    have hz2 : X0.heap.size ≤ w2.heap.size := HZ2.out
    have hrow := HROW.out
    have h5 := h4.new HE2.out hg5 hm5 hfr H3.out.bw.size ⟨by omega, by omega⟩ ⟨by omega, by omega, by omega, by omega⟩ (fun i e => by have := s5 i _ (hsub _ _ e); omega)
      (fun r hr => by
        have := hrow r hr
        exact ⟨by omega, by omega, by omega, by omega, by omega, fun j F' e => by have := s5 j F' (hsub _ _ e); omega⟩)
      (fun i F' r e hr => by have := row_lt (H3.out.fr i F' e).row hr; omega)
    have hx5 : Pg3 W5 XB (no : Int) g (.slice a l.length c) := (HX3.out.below hb4).of_block (hg5.block XB (HX3.out.below hb4).lt (fun e => map_ne h4.mp (HX3.out.below hb4).p0 (by injection e with e; exact e.symm)))
    have hr5 : Pg3 W4 W.heap.size 0 0 (.slice none 0 0) := HR3.out.below hb4
    have hbk5 : W5.heap[W.heap.size]? = W4.heap[W.heap.size]? := hg5.block W.heap.size (Dv.block_lt hr5.p0) (fun e => map_ne h4.mp hr5.p0 (by injection e with e; exact e.symm))
    have r50 := (World.cell?_of_block (a := ⟨W.heap.size, 0, none⟩) hbk5).trans hr5.p0
    have r51 := (World.cell?_of_block (a := ⟨W.heap.size, 1, none⟩) hbk5).trans hr5.p1
    have r52 := (World.cell?_of_block (a := ⟨W.heap.size, 2, none⟩) hbk5).trans hr5.p2
    have r5f : ∀ i, W5.frozen? ⟨W.heap.size, i, none⟩ = false := fun i => (World.frozen?_of_block (a := ⟨W.heap.size, i, none⟩) hbk5).trans (hr5.pf i)
    have hcl5 := row_form ((h5.fr (no : Int) w2.heap.size (by unfold updF; rw [if_pos rfl])).row)
    obtain ⟨p0, p1, p2, _⟩ := hx5
    have KO : Hid (Calls Tryz.prog 40 #[.agg #[.int .i64 (no : Int), .int .i64 g, .slice a l.length c]] W5 (OwnP W5 no g l)) := by
      have hv : (updV fv (no : Int) ⟨g, .slice a l.length c, l, 0, 0⟩ (no : Int)) = ⟨g, .slice a l.length c, l, 0, 0⟩ := by unfold updV; rw [if_pos rfl]
      rw [hv] at hcl5
      obtain ⟨a2, c2, hv2, hc2, hs2⟩ := hcl5
      injection hv2 with e1 _ e3
      subst e1 e3
      exact own_any no g a l c W5 hsm hc2 hs2
    have H5 := Lib.hid h5
    have LF : Hid (W.heap.size < w2.heap.size) := by rw [Hid]; omega
    have LG : Hid (W.heap.size < W5.heap.size) := by
      have q1 := hg5.size
      have q2 := hb4.size
      rw [Hid]; omega
    skip
    clear hst hm5 hg5 h5 h4 hfr hb4 hW4 e0 e1 e2 eq2 q2 hcl5 hbk5 hr5 HR3 HRW3 HX3 H3 hb0 HB0 hrow s1 s2 s3 s4 s5 s6 s7 s8
    go_wp2_with fail
    refine KO.out.mono ?_
    rintro x w6 ⟨a', c', rfl, hrow, hb6⟩
    have H6 := Lib.hid (H5.out.below hb6)
    have HR6 := Lib.hid hrow
    have r60 := Dv.keep_cell hb6 r50
    have r61 := Dv.keep_cell hb6 r51
    have r62 := Dv.keep_cell hb6 r52
    have r6f : ∀ i, w6.frozen? ⟨W.heap.size, i, none⟩ = false := fun i => (hb6.frozen (p := ⟨W.heap.size, i, none⟩) (show W.heap.size < W5.heap.size from Dv.block_lt r50)).trans (r5f i)
    clear r50 r51 r52 r5f hrow hb6 p0 p1 p2 H5 KO
    go_wp2
    obtain ⟨Z, hZ, x0, x1, x2, _, hgZ⟩ := set3 (B := 0) (v0 := .int .i64 (no : Int)) (v1 := .int .i64 g) (v2 := .slice a' l.length c') (Below.refl 0 w6) (Nat.zero_le _) r60 r61 r62
    rw [← hZ]
    obtain ⟨s1, s2, s3, s4, s5, s7, s8, s6⟩ := LT.out
    have hLF := LF.out
    have hLG := LG.out
    have hzz : PlS w Z D P L M n B T np now Q room MF (k + 1) (updF o2 (no : Int) (some w2.heap.size)) (updV fv (no : Int) ⟨g, .slice a l.length c, l, 0, 0⟩) := H6.out.other hgZ ⟨by omega, by omega, by omega⟩ ⟨_, r60⟩ (fun i F e => by
        unfold updF at e; split at e
        · injection e with e; omega
        · have := s5 i F (hsub _ _ e); omega) (fun i F r e hr => by
        unfold updV at hr; unfold updF at e
        by_cases hi : i = (no : Int)
        · rw [if_pos hi] at hr; have := HROW.out r hr; omega
        · rw [if_neg hi] at hr e; have := s7 i F r (hsub _ _ e) hr; omega) s8
    have hrz : RowC Z W5.heap.size (.slice a' l.length c') l := World.ownsRow.kept HR6.out hgZ (by
      cases ho : (Value.slice a' l.length c').ownBlock with
      | none => exact .inl rfl
      | some k => exact .inr (fun e => by
          injection e with e
          have h1 := (World.ownsRow.lt HR6.out k ho).1
          omega))
    refine bodyPost_ret (v := .tuple #[.agg #[.int .i64 (no : Int), .int .i64 g, .slice a' l.length c'], .int .i64 0]) ?_ rfl (.inl (by rw [← HG.out, ← HLL.out]; exact ⟨⟨a', c', rfl, hrz.base (by omega)⟩, o2, _, _, hsub, hzz⟩))
    simp [results, Tryz.results13, go_sem, x0, x1, x2]
  end
  end Go.Proofs.YtkemhkmabbladaaGreatDoor

namespace Go.Proofs.YtkemhkmabbladaaGreatDoor
open Go.RowKit
section
variable {w W X : World} {D P L M n B T np Q room MF k : Nat} {now : Nat → Pg} {o : Int → Option Nat} {fv : Int → FrD}
theorem map_ne_at {M' b off : Nat} {k' : Nat} {o' : Int → Option Nat} {v : Value} (h : FrAt W M' k' o') (hc : W.cell? ⟨b, off, none⟩ = some v) : M' ≠ b := by
  rintro rfl
  obtain ⟨D0, ⟨es, clock, hb, _⟩, _⟩ := h
  simp [World.cell?, hb] at hc
/-- A frame that may go. -/
def idleB (x : FrD) : Bool := !decide (0 < x.first) && decide (x.pins = 0)
set_option maxRecDepth 100000 in
set_option maxHeartbeats 2000000 in
theorem ev_one (h : PlS w W D P L M n B T np now Q room MF k o fv) (hnp : np ≤ 1000) (no : Int) {F : Nat} (e : o no = some F) (PB : Nat) (pb : W.cell? ⟨PB, 0, none⟩ = some (.pointer (some ⟨Q, 0, none⟩))) :
    Calls Tryz.prog 50 #[.pointer (some ⟨F, 0, none⟩), .pointer (some ⟨PB, 0, none⟩)] W fun x w' => x = .returned (.int .i64 (if idleB (fv no) then 0 else 10)) ∧ PlS w w' D P L M n B T np now Q room MF k (if idleB (fv no) then updF o no none else o) fv ∧ (∀ b, b < W.heap.size → b ≠ MF → w'.heap[b]? = W.heap[b]?) ∧ W.heap.size ≤ w'.heap.size := by
  have KI := Lib.hid (idle_any h e)
  have hk := h.keys no (by rw [e]; rfl)
  have hwf : (Lit.int .i64 no).wf = true := WalkArith.wf_i64 (by omega)
  have p0 := (h.fr no F e).p.p0
  have q2 := h.q2
  have hD := h.below ((Below.refl W.heap.size W).drew)
  obtain ⟨W2, hd, h2, hg2, _⟩ := hD.mp.drop no hwf 0
  have HP2 := Lib.hid (hD.drop no hg2 h2)
  have HG2 := Lib.hid hg2
  have HH := Lib.hid h
  unfold idleB
  clear h e hk hwf h2 hg2 hD
  generalize (!decide (0 < (fv no).first) && decide ((fv no).pins = 0)) = bb at *
  cases bb with
  | true =>
    go_enter Tryz.func50, Tryz.ntmps50
    go_wp2_with fail
    refine KI.out.mono ?_
    rintro x w5 ⟨rfl, rfl⟩
    clear KI
    go_wp2_with fail
    go_region
    go_wp2
    go_ret
    exact ⟨rfl, HP2.out, fun b hb hne => HG2.out.block b hb (fun e => by injection e with e; exact hne e), HG2.out.size⟩
  | false =>
    clear hd
    go_enter Tryz.func50, Tryz.ntmps50
    go_wp2_with fail
    refine KI.out.mono ?_
    rintro x w5 ⟨rfl, rfl⟩
    clear KI
    go_wp2
    go_ret
    exact ⟨rfl, HH.out, fun b _ _ => rfl, Nat.le_refl _⟩
set_option maxRecDepth 100000 in
set_option maxHeartbeats 2000000 in
theorem evict_any (h : PlS w W D P L M n B T np now Q room MF k o fv) (hnp : np ≤ 1000) (a : Option Addr) (ks : List Int) (c : Nat) (hl : ks.length ≤ 1000) (hw : ∀ x ∈ ks, (Lit.int .i64 x).wf = true) (hrow : IRow W a ks) :
    Calls Tryz.prog 16 #[.pointer (some ⟨Q, 0, none⟩), .slice a ks.length c] W fun x w' => (∃ e : Int, x = .returned (.int .i64 e)) ∧ (∃ o2, PlS w w' D P L M n B T np now Q room MF k o2 fv ∧ ∀ i F, o2 i = some F → o i = some F) ∧ (∀ b, b < W.heap.size → b ≠ MF → w'.heap[b]? = W.heap[b]?) := by
  have hb1 := (Below.refl W.heap.size W).alloc (Nat.le_refl _) (.cells #[.pointer (some ⟨Q, 0, none⟩)] 25)
  have p0 : (W.alloc (.cells #[.pointer (some ⟨Q, 0, none⟩)] 25)).cell? ⟨W.heap.size, 0, none⟩ = some (.pointer (some ⟨Q, 0, none⟩)) := Dv.new_cell rfl rfl
  have h1 := h.below hb1
  have hrow1 := hrow.below hb1
  have HB1 := Lib.hid hb1
  clear h hb1 hrow
  go_enter Tryz.func16, Tryz.ntmps16
  go_upto_region 1 with fail
  generalize W.alloc (.cells #[.pointer (some ⟨Q, 0, none⟩)] 25) = X at *
  have KE := Lib.hid (each_any (fun x s => (if idleB (fv x) then 0 else 10, if idleB (fv x) then updF s x none else s)) (fun s => s)
    (fun (s : Int → Option Nat) W' => PlS w W' D P L M n B T np now Q room MF k s fv ∧ (∀ i F, s i = some F → o i = some F) ∧ IRow W' a ks ∧ W'.cell? ⟨W.heap.size, 0, none⟩ = some (.pointer (some ⟨Q, 0, none⟩)) ∧ (∀ b, b < W.heap.size → b ≠ MF → W'.heap[b]? = W.heap[b]?))
    Q MF 50 #[.pointer (some ⟨W.heap.size, 0, none⟩)] a ks c o X ⟨h1, fun i F e => e, hrow1, p0, fun b hb _ => HB1.out.block b hb⟩ hl hw (enters_of Tryz.func50 (by kernel_rfl) rfl)
    (fun s W' hi => ⟨hi.1.q2, ⟨k, hi.1.mp⟩, hi.2.2.1⟩)
    (fun s W' x F hi hx e => by
      obtain ⟨i1, i2, i3, i4, i5⟩ := hi
      refine (ev_one i1 hnp x e W.heap.size i4).mono ?_
      rintro y w' ⟨rfl, hp, hkp, hsz⟩
      refine ⟨rfl, hp, fun i F' e' => i2 i F' (by
        dsimp only at e'
        split at e'
        · unfold updF at e'; split at e'
          · cases e'
          · exact e'
        · exact e'), ?_, ?_, ?_⟩
      · rcases i3 with hnil | ⟨b, off, ea, hcs⟩
        · exact .inl hnil
        · refine .inr ⟨b, off, ea, fun i hi => ?_⟩
          have hc := hcs i hi
          have hbm : b ≠ MF := fun e => map_ne_at i1.mp hc e.symm
          exact (World.cell?_of_block (a := ⟨b, off + i, none⟩) (hkp b (Dv.block_lt hc) hbm)).trans hc
      · have hbm : W.heap.size ≠ MF := fun e => map_ne i1.mp i4 e.symm
        exact (World.cell?_of_block (a := ⟨W.heap.size, 0, none⟩) (hkp W.heap.size (Dv.block_lt i4) hbm)).trans i4
      · intro b hb hne
        exact (hkp b (Nat.lt_trans hb (Dv.block_lt i4)) hne).trans (i5 b hb hne)))
  clear h1 hrow1
  go_wp2_with fail
  refine KE.out.mono ?_
  rintro x w5 ⟨rfl, hp5, hs5, _, _, hk5⟩
  have HP5 := Lib.hid hp5
  have HS5 := Lib.hid hs5
  have HK5 := Lib.hid hk5
  clear hp5 hs5 hk5 KE p0
  go_wp2
  go_ret
  exact ⟨⟨_, rfl⟩, ⟨_, HP5.out, HS5.out⟩, HK5.out⟩
end
end Go.Proofs.YtkemhkmabbladaaGreatDoor
