/-
  THE CONTRACT OF pool's Get: a page at hand; one that is read, where there is room.
-/
import Derived.Test.YtpkbopeddhgnlaaGreatDoorPlNew
import Derived.Deep.RegionHeld3
import Derived.Deep.Cut
namespace Go.Proofs.YtpkbopeddhgnlaaGreatDoor
open Go.RowKit Go.Maps Go.ChangeMaps Go.MapKept Go.WideElems
section
variable {w W X : World} {D P L M n B T np Q room MF k : Nat} {now : Nat → Pg} {o : Int → Option Nat} {fv : Int → FrD}
theorem row_form {W : World} {B : Nat} {v : Value} {l : List (ByteArray × ByteArray)} (h : RowC W B v l) : ∃ a c, v = .slice a l.length c ∧ ClsAt W a l ∧ (a = none ∨ ∃ b off, a = some ⟨b, off, none⟩) := by
  obtain ⟨a, c, rfl, h2, _⟩ := h.cls
  exact ⟨a, c, rfl, h2, h.spot⟩
/-- What Get answers. -/
def GetP (W : World) (no g : Int) (l : List (ByteArray × ByteArray)) (x : Ending) (w' : World) : Prop := ∃ a' c', x = .returned (.tuple #[.agg #[.int .i64 no, .int .i64 g, .slice a' l.length c'], .int .i64 0]) ∧ RowC w' W.heap.size (.slice a' l.length c') l
set_option maxRecDepth 100000 in
set_option maxHeartbeats 2000000 in
theorem get_hit (h : PlS w W D P L M n B T np now Q room MF k o fv) (no : Int) (hno : (Lit.int .i64 no).wf = true) {F : Nat} (e : o no = some F) :
    Calls Tryz.prog 8 #[.pointer (some ⟨Q, 0, none⟩), .int .i64 no] W fun x w' => GetP W no (fv no).g (fv no).l x w' ∧ PlS w w' D P L M n B T np now Q room MF k o fv ∧ Below W.heap.size W w' := by
  have hb0 := (Below.refl W.heap.size W).alloc (Nat.le_refl _) (.cells #[.int .i64 0, .int .i64 0, .slice none 0 0] 26)
  have HR0 := Lib.hid (tkR_new W 26)
  have h0 := h.below hb0
  have q2 := h0.q2
  have lk := h0.mp.lookOk no hno
  rw [e] at lk
  rw [show frV (some F) = Value.pointer (some ⟨F, 0, none⟩) from rfl, show (some F).isSome = true from rfl] at lk
  have hf := h0.fr no F e
  obtain ⟨a, c, hv, hcl, hsp⟩ := row_form hf.row
  have p0 := hf.p.p0
  have p1 := hf.p.p1
  have p2 := hf.p.p2
  rw [hv] at p2
  have KO := Lib.hid (own_any no (fv no).g a (fv no).l c _ hf.sm hcl hsp)
  have HH := Lib.hid h
  obtain ⟨g, hg⟩ : ∃ g, g = (fv no).g := ⟨_, rfl⟩
  obtain ⟨l, hl⟩ : ∃ l, l = (fv no).l := ⟨_, rfl⟩
  rw [← hg] at p1 KO
  rw [← hl] at p2 KO
  rw [← hg, ← hl]
  clear h h0 hf hv hcl hsp hg hl e hno
  go_enter Tryz.func8, Tryz.ntmps8
  go_upto_region 1 with fail
  generalize W.alloc (.cells #[.int .i64 0, .int .i64 0, .slice none 0 0] 26) = X0 at *
  have HX0 : Hid (W.heap.size < X0.heap.size) := Dv.block_lt HR0.out.r0
  go_wp2_with fail
  refine KO.out.mono ?_
  rintro x w1 ⟨a', c', rfl, hrow, hb1⟩
  obtain ⟨r0, r1, r2, rf, bw⟩ := HR0.out.below hb1
  have HRW := Lib.hid hrow
  clear hrow hb1 KO p0 p1 p2 q2 lk
  go_wp2
  obtain ⟨Z, hZ, x0, x1, x2, hbZ, hgZ⟩ := set3 (v0 := .int .i64 no) (v1 := .int .i64 g) (v2 := .slice a' l.length c') bw (Nat.le_refl _) r0 r1 r2
  rw [← hZ]
  have hlt2 : W.heap.size < X0.heap.size := HX0.out
  have hrz : RowC Z X0.heap.size (.slice a' l.length c') l := World.ownsRow.kept HRW.out hgZ (by
    cases ho : (Value.slice a' l.length c').ownBlock with
    | none => exact .inl rfl
    | some k => exact .inr (fun e => by
        injection e with e
        have h1 := (World.ownsRow.lt HRW.out k ho).1
        omega))
  refine bodyPost_ret (v := .tuple #[.agg #[.int .i64 no, .int .i64 g, .slice a' l.length c'], .int .i64 0]) ?_ rfl ⟨⟨a', c', rfl, hrz.base (by omega)⟩, HH.out.below hbZ, hbZ⟩
  simp [results, Tryz.results8, go_sem, x0, x1, x2]
theorem FrAt.lens {W : World} {M n : Nat} {o : Int → Option Nat} (h : FrAt W M n o) :
    ∃ c : Nat, c ≤ n ∧ ∀ (W' : World) ty, W'.heap[M]? = W.heap[M]? → (Builtin.len_ #[64] ty #[.map (some M)]).run Tryz.prog W' = .ok (.int .i64 (c : Int)) W' := by
  obtain ⟨D, h1, _⟩ := h
  refine ⟨size D, h1.size_le, fun W' ty hb' => ?_⟩
  obtain ⟨es, clock, hb, F, hs, hD⟩ := h1
  exact World.ownsMap.len (P := Tryz.prog) (w := W') (b := M) (n := n) (D := D) ⟨es, clock, hb'.trans hb, F, hs, hD⟩ Tryz.underlying64 ty
theorem room_yes (h : PlS w W D P L M n B T np now Q room MF k o fv) (hk : k < room) :
    Calls Tryz.prog 29 #[.pointer (some ⟨Q, 0, none⟩)] W fun x w' => x = .returned (.bool true) ∧ Below W.heap.size W w' := by
  obtain ⟨c, hc, hlen⟩ := h.mp.lens
  have q1 := h.q1
  have q2 := h.q2
  have hlen2 : ∀ q ty, (Builtin.len_ #[64] ty #[.map (some MF)]).run Tryz.prog (W.drewN q) = .ok (.int .i64 (c : Int)) (W.drewN q) := fun q ty => hlen _ ty rfl
  have hcr : (c : Int) < (room : Int) := by omega
  clear h
  go_enter Tryz.func29, Tryz.ntmps29
  go_wp2_with fail
  go_quiet (fail)
  go_wp2
  go_ret
  exact ⟨rfl, below_drewN (Below.refl _ _) _⟩
set_option maxRecDepth 100000 in
set_option maxHeartbeats 4000000 in
theorem get_new (h : PlS w W D P L M n B T np now Q room MF k o fv) (hk : k < room) (hkm : k ≤ 1000) (hn : n ≤ 4096) (hfit : 5 + 4 * np ≤ n) (no : Nat) (hno : no < np) (e : o (no : Int) = none) (hsm : (now no).2.length ≤ 1000) :
    Calls Tryz.prog 8 #[.pointer (some ⟨Q, 0, none⟩), .int .i64 (no : Int)] W fun x w' => GetP W no (now no).1 (now no).2 x w' ∧ (∃ F v, PlS w w' D P L M n B T np now Q room MF (k + 1) (updF o no (some F)) (updV fv no ⟨(now no).1, v, (now no).2, 0, 0⟩)) ∧ Below w.heap.size w w' := by
  have hb0 := (Below.refl W.heap.size W).alloc (Nat.le_refl _) (.cells #[.int .i64 0, .int .i64 0, .slice none 0 0] 26)
  have HR0 := Lib.hid (tkR_new W 26)
  have hwf : (Lit.int .i64 (no : Int)).wf = true := WalkArith.wf_i64 (by omega)
  have h0 := h.below hb0
  have q0 := h0.q0
  have q2 := h0.q2
  have lk := h0.mp.lookOk no hwf
  rw [e] at lk
  rw [show frV none = Value.pointer none from rfl, show (none : Option Nat).isSome = false from rfl] at lk
  have KP := Lib.hid (c_page h0.tk (by intro x; cases x) hn hfit no hno)
  have H0 := Lib.hid h0
  have HE := Lib.hid e
  have HB0 := Lib.hid hb0
  obtain ⟨g, hg⟩ : ∃ g, g = (now no).1 := ⟨_, rfl⟩
  obtain ⟨l, hl⟩ : ∃ l, l = (now no).2 := ⟨_, rfl⟩
  rw [← hg, ← hl] at KP
  rw [← hl] at hsm
  rw [← hg, ← hl]
  have LT : Hid (P < W.heap.size ∧ L < W.heap.size ∧ M < W.heap.size ∧ Q < W.heap.size ∧ (∀ i F, o i = some F → F < W.heap.size) ∧ (∀ i F r, o i = some F → (fv i).v.ownBlock = some r → r < W.heap.size) ∧ w.heap.size ≤ W.heap.size ∧ W.heap.size < (W.alloc (.cells #[.int .i64 0, .int .i64 0, .slice none 0 0] 26)).heap.size) := ⟨h.tk.lts.1, h.tk.lts.2.1, h.tk.lts.2.2, h.lts.1, h.lts.2.2, fun i F r e hr => row_lt (h.fr i F e).row hr, h.bw.size, by simp⟩
  clear h h0 e hg hl
  go_enter Tryz.func8, Tryz.ntmps8
  go_upto_region 1 with fail
  generalize W.alloc (.cells #[.int .i64 0, .int .i64 0, .slice none 0 0] 26) = X0 at *
  go_wp2_with fail
  refine KP.out.mono ?_
  rintro x w1 ⟨hg0, a, c, rfl, hrow, hb1⟩
  have HR1 := Lib.hid (HR0.out.below hb1)
  have H1 := Lib.hid (H0.out.below hb1)
  have HRW1 := Lib.hid hrow
  have HX1 := Lib.hid hb1
  clear KP HR0 H0 q0 q2 lk hrow hb1
  go_upto_region 7 with fail
  have hby := (Below.refl w1.heap.size w1).alloc (Nat.le_refl _) (.cells #[.int .i64 (no : Int), .int .i64 g, .slice a l.length c] 26)
  have HX := Lib.hid (Pg3.new w1 26 (no : Int) g (.slice a l.length c) [])
  have HR2 := Lib.hid (HR1.out.below hby)
  have H2 := Lib.hid (H1.out.below hby)
  have HRW2 := Lib.hid (HRW1.out.below hby)
  have HBY := Lib.hid (HX1.out.trans (hby.mono HX1.out.size))
  obtain ⟨XB, hXB⟩ : ∃ XB, XB = w1.heap.size := ⟨_, rfl⟩
  have HXB := Lib.hid hXB
  rw [← hXB] at HX ⊢
  clear hby HR1 H1 HRW1 HX1 hXB
  generalize w1.alloc (.cells #[.int .i64 (no : Int), .int .i64 g, .slice a l.length c] 26) = Y at *
  have KM := Lib.hid (room_yes H2.out hk)
  go_wp2_with fail
  refine KM.out.mono ?_
  rintro x w2 ⟨rfl, hb2⟩
  have HX3 := Lib.hid (HX.out.below hb2)
  have HR3 := Lib.hid (HR2.out.below hb2)
  have H3 := Lib.hid (H2.out.below hb2)
  have HRW3 := Lib.hid (HRW2.out.below hb2)
  have HB3 := Lib.hid (HBY.out.trans (hb2.mono HBY.out.size))
  clear hb2 HX HR2 H2 HRW2 HBY KM
  go_upto_region 11 with fail
  have q2 := H3.out.q2
  obtain ⟨p0, p1, p2, _⟩ := HX3.out
  have hba := (Below.refl w2.heap.size w2).alloc (Nat.le_refl _) (.cells #[.int .i64 (no : Int), .int .i64 g, .slice a l.length c, .int .i64 0, .int .i64 0] 69)
  have H4 := H3.out.below hba
  have hF := Pg3.new w2 69 (no : Int) g (.slice a l.length c) [.int .i64 0, .int .i64 0]
  have f3 : (w2.alloc (.cells #[.int .i64 (no : Int), .int .i64 g, .slice a l.length c, .int .i64 0, .int .i64 0] 69)).cell? ⟨w2.heap.size, 3, none⟩ = some (.int .i64 0) := Dv.new_cell rfl rfl
  have f4 : (w2.alloc (.cells #[.int .i64 (no : Int), .int .i64 g, .slice a l.length c, .int .i64 0, .int .i64 0] 69)).cell? ⟨w2.heap.size, 4, none⟩ = some (.int .i64 0) := Dv.new_cell rfl rfl
  have r4 := HRW3.out.below hba
  have e0 := Dv.keep_cell hba p0
  have e1 := Dv.keep_cell hba p1
  have e2 := Dv.keep_cell hba p2
  have eq2 := Dv.keep_cell hba q2
  obtain ⟨W5, hst, hm5, hg5, hz5⟩ := (FrAt.of_block (W' := (w2.alloc (.cells #[.int .i64 (no : Int), .int .i64 g, .slice a l.length c, .int .i64 0, .int .i64 0] 69)).drew) H4.mp rfl).store (no : Int) hwf w2.heap.size (by unfold maxLen; omega)
  clear H4 hF f3 f4 r4 hba hz5
  go_region
  obtain ⟨W4, hW4⟩ : ∃ W4, W4 = (w2.alloc (.cells #[.int .i64 (no : Int), .int .i64 g, .slice a l.length c, .int .i64 0, .int .i64 0] 69)).drew := ⟨_, rfl⟩
  have hb4 : Below w2.heap.size w2 W4 := by rw [hW4]; exact ((Below.refl _ _).alloc (Nat.le_refl _) _).drew
  have hfr : FrIs W4 w2.heap.size (no : Int) ⟨g, .slice a l.length c, l, 0, 0⟩ := by
    rw [hW4]
    exact ⟨⟨Dv.new_cell rfl rfl, Dv.new_cell rfl rfl, Dv.new_cell rfl rfl, fun _ => World.frozen?_alloc_at _ _ _ _ rfl⟩, Dv.new_cell rfl rfl, Dv.new_cell rfl rfl, ((HRW3.out.below ((Below.refl _ _).alloc (Nat.le_refl _) _)).base (Nat.zero_le _)), hsm⟩
  have h4 : PlS w W4 D P L M n B T np now Q room MF k o fv := H3.out.below hb4
  rw [← hW4] at hst hg5
  obtain ⟨s1, s2, s3, s4, s5, s7, s8, s6⟩ := LT.out
  have hz2 : X0.heap.size ≤ w2.heap.size := HB3.out.size
  have hrow : ∀ r, (Value.slice a l.length c).ownBlock = some r → X0.heap.size ≤ r ∧ r < w2.heap.size := fun r hr => World.ownsRow.lt HRW3.out r hr
  have h5 := h4.new HE.out hg5 hm5 hfr H3.out.bw.size ⟨by omega, by omega⟩ ⟨by omega, by omega, by omega, by omega⟩ (fun i e => by have := s5 i _ e; omega)
    (fun r hr => by
      have := hrow r hr
      exact ⟨by omega, by omega, by omega, by omega, by omega, fun j F' e => by have := s5 j F' e; omega⟩)
    (fun i F' r e hr => by have := row_lt (H3.out.fr i F' e).row hr; omega)
  have hx5 : Pg3 W5 XB (no : Int) g (.slice a l.length c) := (HX3.out.below hb4).of_block (hg5.block XB (HX3.out.below hb4).lt (fun e => map_ne h4.mp (HX3.out.below hb4).p0 (by injection e with e; exact e.symm)))
  have hr5 : TkR W W4 := HR3.out.below hb4
  have hbk5 : W5.heap[W.heap.size]? = W4.heap[W.heap.size]? := hg5.block W.heap.size (Dv.block_lt hr5.r0) (fun e => map_ne h4.mp hr5.r0 (by injection e with e; exact e.symm))
  have r50 := (World.cell?_of_block (a := ⟨W.heap.size, 0, none⟩) hbk5).trans hr5.r0
  have r51 := (World.cell?_of_block (a := ⟨W.heap.size, 1, none⟩) hbk5).trans hr5.r1
  have r52 := (World.cell?_of_block (a := ⟨W.heap.size, 2, none⟩) hbk5).trans hr5.r2
  have r5f : ∀ i, W5.frozen? ⟨W.heap.size, i, none⟩ = false := fun i => (World.frozen?_of_block (a := ⟨W.heap.size, i, none⟩) hbk5).trans (hr5.rf i)
  have hcl5 := row_form ((h5.fr (no : Int) w2.heap.size (by unfold updF; rw [if_pos rfl])).row)
  obtain ⟨p0, p1, p2, _⟩ := hx5
  have KO : Hid (Calls Tryz.prog 27 #[.agg #[.int .i64 (no : Int), .int .i64 g, .slice a l.length c]] W5 (OwnP W5 no g l)) := by
    have hv : (updV fv (no : Int) ⟨g, .slice a l.length c, l, 0, 0⟩ (no : Int)) = ⟨g, .slice a l.length c, l, 0, 0⟩ := by unfold updV; rw [if_pos rfl]
    rw [hv] at hcl5
    obtain ⟨a2, c2, hv2, hc2, hs2⟩ := hcl5
    injection hv2 with e1 _ e3
    subst e1 e3
    exact own_any no g a l c W5 hsm hc2 hs2
  have H5 := Lib.hid h5
  have LF : Hid (W.heap.size < w2.heap.size) := by rw [Hid]; omega
  have LG : Hid (W.heap.size < W5.heap.size) := by
    have q1 := hg5.size
    have q2 := hb4.size
    rw [Hid]; omega
  have HROW := Lib.hid hrow
  clear hst hm5 hg5 h5 h4 hfr hb4 hW4 e0 e1 e2 eq2 q2 hcl5 hbk5 hr5 HR3 HRW3 HX3 H3 hb0 HB0 hrow s1 s2 s3 s4 s5 s6 s7 s8
  go_wp2_with fail
  refine KO.out.mono ?_
  rintro x w6 ⟨a', c', rfl, hrow, hb6⟩
  have H6 := Lib.hid (H5.out.below hb6)
  have HR6 := Lib.hid hrow
  have r60 := Dv.keep_cell hb6 r50
  have r61 := Dv.keep_cell hb6 r51
  have r62 := Dv.keep_cell hb6 r52
  have r6f : ∀ i, w6.frozen? ⟨W.heap.size, i, none⟩ = false := fun i => (hb6.frozen (p := ⟨W.heap.size, i, none⟩) (show W.heap.size < W5.heap.size from Dv.block_lt r50)).trans (r5f i)
  clear r50 r51 r52 r5f hrow hb6 p0 p1 p2 H5 KO
  go_wp2
  obtain ⟨Z, hZ, x0, x1, x2, _, hgZ⟩ := set3 (B := 0) (v0 := .int .i64 (no : Int)) (v1 := .int .i64 g) (v2 := .slice a' l.length c') (Below.refl 0 w6) (Nat.zero_le _) r60 r61 r62
  rw [← hZ]
  obtain ⟨s1, s2, s3, s4, s5, s7, s8, s6⟩ := LT.out
  have hLF := LF.out
  have hLG := LG.out
  have hzz : PlS w Z D P L M n B T np now Q room MF (k + 1) (updF o (no : Int) (some w2.heap.size)) (updV fv (no : Int) ⟨g, .slice a l.length c, l, 0, 0⟩) := H6.out.other hgZ ⟨by omega, by omega, by omega⟩ ⟨_, r60⟩ (fun i F e => by
      unfold updF at e; split at e
      · injection e with e; omega
      · have := s5 i F e; omega) (fun i F r e hr => by
      unfold updV at hr; unfold updF at e
      by_cases hi : i = (no : Int)
      · rw [if_pos hi] at hr; have := HROW.out r hr; omega
      · rw [if_neg hi] at hr e; have := s7 i F r e hr; omega) s8
  have hrz : RowC Z W5.heap.size (.slice a' l.length c') l := World.ownsRow.kept HR6.out hgZ (by
    cases ho : (Value.slice a' l.length c').ownBlock with
    | none => exact .inl rfl
    | some k => exact .inr (fun e => by
        injection e with e
        have h1 := (World.ownsRow.lt HR6.out k ho).1
        omega))
  refine bodyPost_ret (v := .tuple #[.agg #[.int .i64 (no : Int), .int .i64 g, .slice a' l.length c'], .int .i64 0]) ?_ rfl ⟨⟨a', c', rfl, hrz.base (by omega)⟩, ⟨_, _, hzz⟩, hzz.bw⟩
  simp [results, Tryz.results8, go_sem, x0, x1, x2]
end
end Go.Proofs.YtpkbopeddhgnlaaGreatDoor
