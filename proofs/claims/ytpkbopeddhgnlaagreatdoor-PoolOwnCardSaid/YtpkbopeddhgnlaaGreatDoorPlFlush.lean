/-
  THE CONTRACTS OF pool's Flush: what its closure does to a frame (of a page without cells).
-/
import Derived.Test.YtpkbopeddhgnlaaGreatDoorPlDirty
import Derived.Deep.Cut
import Derived.Deep.CutRange
import Derived.Deep.DeepCutAuto
namespace Go.Proofs.YtpkbopeddhgnlaaGreatDoor
open Go.RowKit
section
variable {w W X : World} {D P L M n B T np Q room MF k : Nat} {now : Nat → Pg} {o : Int → Option Nat} {fv : Int → FrD}
/-- Store of a page without cells that was made for it. -/
theorem c_store1 (h : Tk w W D P L M n B T np now .on) (hn : n ≤ 4096) (h3 : 5 + 4 * np ≤ n) (hB : B + 14 ≤ 900000) (q : PgV) (hl : q.l = []) (k : Nat) (hk : q.no = (k : Int)) (hkn : k < np) (hok : pgOk q.no q.g q.l = true) :
    Calls Tryz.prog 41 #[.pointer (some ⟨T, 0, none⟩), .slice (some ⟨W.heap.size, 0, none⟩) 1 1] (W.alloc (.cells #[.int .i64 q.no, .int .i64 q.g, .slice q.a q.l.length q.c] 26)).drew
      fun x w' => x = .returned (.int .i64 0) ∧ Tk w w' D P L M n (B + 14) T np (setPg now k (q.g, q.l)) .on ∧ Dv.Fr3 P L M W w' := by
  obtain ⟨s, q1, q2, q3⟩ := h
  have hba := ((Below.refl W.heap.size W).alloc (Nat.le_refl _) (.cells #[.int .i64 q.no, .int .i64 q.g, .slice q.a q.l.length q.c] 26)).drew
  obtain ⟨e1, e2, e3⟩ := stL_on [q] s now q2 q3
  have hmd : mdL np now [q] = (0, setPg now k (q.g, q.l)) := by
    unfold mdL
    rw [if_pos ⟨hok, by rw [hk]; omega⟩, hk, Int.toNat_natCast]
    rfl
  rw [hmd] at e1 e2
  have := store_l (q1.below hba) hn h3 (some ⟨W.heap.size, 0, none⟩) [q] 1 (by simpa using hB) (fun W1 hf => pgs_new q W 26 q1.d.lts.2 (fun _ => .inl hl) W1 ⟨hf.os, hf.tape, hf.output, hf.size, hf.block⟩) (fun i => by
    match i with
    | 0 => show q.l.length ≤ maxLen; rw [hl]; exact Nat.zero_le _
    | i + 1 => show 0 ≤ maxLen; exact Nat.zero_le _)
  refine this.mono ?_
  rintro x w' ⟨rfl, hs2, hf⟩
  rw [e1]
  exact ⟨rfl, ⟨_, hs2, e2, e3⟩, (Dv.Fr3.of_below hba).trans hf⟩
/-- A frame that isn't dirty. -/
theorem fl_clean (h : PlS w W D P L M n B T np now Q room MF k o fv) (no : Int) {F : Nat} (e : o no = some F) (HB PB CB : Nat) (hf : ¬ 0 < (fv no).first) :
    Calls Tryz.prog 40 #[.pointer (some ⟨F, 0, none⟩), .pointer (some ⟨HB, 0, none⟩), .pointer (some ⟨PB, 0, none⟩), .pointer (some ⟨CB, 0, none⟩)] W fun x w' => x = .returned (.int .i64 0) ∧ W = w' := by
  have KD := Lib.hid (dirty_any h e)
  rw [show decide (0 < (fv no).first) = false by simpa using hf] at KD
  clear h e hf
  go_enter Tryz.func40, Tryz.ntmps40
  go_wp2_with fail
  refine KD.out.mono ?_
  rintro x w5 ⟨rfl, rfl⟩
  go_wp2
  go_ret
  exact ⟨rfl, rfl⟩
/-- A frame that is ahead of the horizon. -/
theorem fl_busy (h : PlS w W D P L M n B T np now Q room MF k o fv) (no : Int) {F : Nat} (e : o no = some F) (HB PB CB : Nat) (hz : Int) (hb : W.cell? ⟨HB, 0, none⟩ = some (.int .i64 hz)) (hf : 0 < (fv no).first) (hg : hz < (fv no).g) :
    Calls Tryz.prog 40 #[.pointer (some ⟨F, 0, none⟩), .pointer (some ⟨HB, 0, none⟩), .pointer (some ⟨PB, 0, none⟩), .pointer (some ⟨CB, 0, none⟩)] W fun x w' => x = .returned (.int .i64 10) ∧ ∃ q, w' = W.drewN q := by
  have KD := Lib.hid (dirty_any h e)
  rw [show decide (0 < (fv no).first) = true by simpa using hf] at KD
  have p1 := (h.fr no F e).p.p1
  clear h e hf
  generalize (fv no).g = g at *
  have hd : decide (hz < g) = true := by simpa using hg
  go_enter Tryz.func40, Tryz.ntmps40
  go_wp2_with fail
  refine KD.out.mono ?_
  rintro x w5 ⟨rfl, rfl⟩
  go_wp2
  go_quiet (fail)
  go_wp2
  go_ret
  exact ⟨rfl, _, rfl⟩
set_option maxRecDepth 100000 in
set_option maxHeartbeats 4000000 in
/-- A frame that is stored. -/
theorem fl_store (h : PlS w W D P L M n B T np now Q room MF k o fv) (hn : n ≤ 4096) (h3 : 5 + 4 * np ≤ n) (hB : B + 14 ≤ 900000) (no : Nat) (hno : no < np) {F : Nat} (e : o (no : Int) = some F) (HB PB CB : Nat) (hz cnt : Int) (hb : W.cell? ⟨HB, 0, none⟩ = some (.int .i64 hz)) (pb : W.cell? ⟨PB, 0, none⟩ = some (.pointer (some ⟨Q, 0, none⟩))) (cb : W.cell? ⟨CB, 0, none⟩ = some (.int .i64 cnt)) (cf : W.frozen? ⟨CB, 0, none⟩ = false)
    (hc : 0 ≤ cnt ∧ cnt ≤ 1000) (hne : CB ≠ P ∧ CB ≠ L ∧ CB ≠ M ∧ CB ≠ F ∧ w.heap.size ≤ CB) (hF : ∀ i F', o i = some F' → F' ≠ CB) (hR : ∀ i F' r, o i = some F' → (fv i).v.ownBlock = some r → r ≠ CB) (hf : 0 < (fv no).first) (hg : (fv no).g ≤ hz) (hl : (fv no).l = []) (hok : pgOk no (fv no).g [] = true) :
    Calls Tryz.prog 40 #[.pointer (some ⟨F, 0, none⟩), .pointer (some ⟨HB, 0, none⟩), .pointer (some ⟨PB, 0, none⟩), .pointer (some ⟨CB, 0, none⟩)] W fun x w' => x = .returned (.int .i64 0) ∧
      PlS w w' D P L M n (B + 14) T np (setPg now no ((fv no).g, [])) Q room MF k o (updV fv no ⟨(fv no).g, (fv no).v, [], 0, (fv no).pins⟩) ∧ w'.cell? ⟨CB, 0, none⟩ = some (.int .i64 (cnt + 1)) ∧ w'.frozen? ⟨CB, 0, none⟩ = false ∧ ∀ b, b < W.heap.size → b ≠ P → b ≠ L → b ≠ M → b ≠ F → b ≠ CB → w'.heap[b]? = W.heap[b]? := by
  have KD := Lib.hid (dirty_any h e)
  rw [show decide (0 < (fv no).first) = true by simpa using hf] at KD
  have hfr := h.fr no F e
  obtain ⟨p0, p1, p2, pf⟩ := hfr.p
  have q0 := h.q0
  obtain ⟨a, c, hv, _, _⟩ := row_form hfr.row
  rw [hl] at hv
  have hv2 : (fv no).v = .slice a 0 c := hv
  rw [hv2] at p2
  have KS := Lib.hid (fun (X : World) (hX : Below W.heap.size W X) => c_store1 (h.tk.below hX) hn h3 hB ⟨no, (fv no).g, a, c, []⟩ rfl no rfl hno hok)
  have HH := Lib.hid h
  have HE := Lib.hid e
  have HV := Lib.hid hv2
  have HL := Lib.hid hl
  clear h e hf hfr hv hv2 hok hl
  obtain ⟨g, hgg⟩ : ∃ g, g = (fv no).g := ⟨_, rfl⟩
  have HG := Lib.hid hgg
  rw [← hgg] at p1 KS hg
  clear hgg
  dsimp only at KS
  have hd : decide (hz < g) = false := by simp; omega
  go_enter Tryz.func40, Tryz.ntmps40
  go_wp2_with fail
  refine KD.out.mono ?_
  rintro x w5 ⟨rfl, rfl⟩
  go_wp2
  go_quiet (fail)
  go_upto_region 5 with fail
  have hbV := below_drewN (Below.refl W.heap.size W) nq
  have e0 : (W.drewN nq).cell? ⟨F, 0, none⟩ = some (.int .i64 (no : Int)) := p0
  have e1 : (W.drewN nq).cell? ⟨F, 1, none⟩ = some (.int .i64 g) := p1
  have e2 : (W.drewN nq).cell? ⟨F, 2, none⟩ = some (.slice a 0 c) := p2
  have eq0 : (W.drewN nq).cell? ⟨Q, 0, none⟩ = some (.pointer (some ⟨T, 0, none⟩)) := q0
  have epb : (W.drewN nq).cell? ⟨PB, 0, none⟩ = some (.pointer (some ⟨Q, 0, none⟩)) := pb
  have ecb : (W.drewN nq).cell? ⟨CB, 0, none⟩ = some (.int .i64 cnt) := cb
  have ecf : (W.drewN nq).frozen? ⟨CB, 0, none⟩ = false := cf
  have hkV : ∀ b, b < W.heap.size → (W.drewN nq).heap[b]? = W.heap[b]? := fun b _ => rfl
  have hzV : (W.drewN nq).heap.size = W.heap.size := rfl
  clear p0 p1 p2 q0 pb cb cf pf hb
  generalize W.drewN nq = V at *
  have KS1 := Lib.hid (KS.out V hbV)
  have HP := Lib.hid (HH.out.below hbV)
  have HKV := Lib.hid hkV
  have HZV := Lib.hid hzV
  have c0 := keep_alloc (o := .cells #[.int .i64 (no : Int), .int .i64 g, .slice a 0 c] 26) e0
  have c1 := keep_alloc (o := .cells #[.int .i64 (no : Int), .int .i64 g, .slice a 0 c] 26) e1
  have c2 := keep_alloc (o := .cells #[.int .i64 (no : Int), .int .i64 g, .slice a 0 c] 26) e2
  have cq := keep_alloc (o := .cells #[.int .i64 (no : Int), .int .i64 g, .slice a 0 c] 26) eq0
  have cp := keep_alloc (o := .cells #[.int .i64 (no : Int), .int .i64 g, .slice a 0 c] 26) epb
  clear hbV hkV hzV KS HH
  go_cut [6] (fun s wx => s = .int .i64 0 ∧ Hid (Tk w wx D P L M n (B + 14) T np (setPg now no (g, [])) .on) ∧ Hid (Dv.Fr3 P L M V wx))
  case first =>
    go_region_with (first | (go_at_call 41; refine KS1.out.mono ?_; rintro x w9 ⟨rfl, hk9, hf9⟩))
    all_goals (go_wp2_with fail; go_meet)
    all_goals exact ⟨rfl, hk9, hf9⟩
  case rest =>
  obtain ⟨rfl, hk, hfx⟩ := hcut
  rename World => wc
  obtain ⟨n1, n2, n3, n4, n5⟩ := hne
  have hP1 := HP.out.fr3 hk.out hfx.out
  have hfr := hP1.fr no F HE.out
  have f3 := hfr.f0
  have ff := hfr.p.pf 3
  have b1 := hfx.out.cell ecb n1 n2 n3
  have b1f : wc.frozen? ⟨CB, 0, none⟩ = false := (World.frozen?_of_block (a := ⟨CB, 0, none⟩) (hfx.out.block CB (Dv.block_lt ecb) n1 n2 n3)).trans ecf
  have hgY := grown_cell wc F 3 (.int .i64 0)
  have oth : ∀ {v : Value} (j : Nat), 3 ≠ j → wc.cell? ⟨F, j, none⟩ = some v → (wc.setCell ⟨F, 3, none⟩ (.int .i64 0)).cell? ⟨F, j, none⟩ = some v := fun j hne hc => by
    rw [World.cell?_setCell_other _ _ _ _ (fun e => by injection e with _ e; exact hne e)]; exact hc
  have hFrY : FrIs (wc.setCell ⟨F, 3, none⟩ (.int .i64 0)) F no ⟨(fv no).g, (fv no).v, [], 0, (fv no).pins⟩ :=
    ⟨⟨oth 0 (by decide) hfr.p.p0, oth 1 (by decide) hfr.p.p1, oth 2 (by decide) hfr.p.p2, fun i => by rw [World.frozen?_setCell]; exact hfr.p.pf i⟩, World.cell?_setCell_same _ _ _ f3, oth 4 (by decide) hfr.f1,
      row_block (by have := hfr.row; rw [HL.out] at this; exact this) (fun r hr => hgY.block r (row_lt hfr.row hr) (fun e => by injection e with e; exact (hP1.rs no F r HE.out hr).2 no F HE.out e)), by simp⟩
  have hY := hP1.put HE.out hgY hFrY (.inl rfl)
  have b2 : (wc.setCell ⟨F, 3, none⟩ (.int .i64 0)).cell? ⟨CB, 0, none⟩ = some (.int .i64 cnt) := (World.cell?_of_block (a := ⟨CB, 0, none⟩) (Below.heap_setCell wc ⟨F, 3, none⟩ _ CB n4)).trans b1
  have b2f : (wc.setCell ⟨F, 3, none⟩ (.int .i64 0)).frozen? ⟨CB, 0, none⟩ = false := by rw [World.frozen?_setCell]; exact b1f
  have hZ := hY.other (grown_cell _ CB 0 (.int .i64 (cnt + 1))) ⟨n1, n2, n3⟩ ⟨_, b2⟩ hF (fun i F' r ei hr => by
    unfold updV at hr
    split at hr
    · rename_i q; subst q; exact hR _ F' r ei hr
    · exact hR i F' r ei hr) n5
  have b3 : ((wc.setCell ⟨F, 3, none⟩ (.int .i64 0)).setCell ⟨CB, 0, none⟩ (.int .i64 (cnt + 1))).cell? ⟨CB, 0, none⟩ = some (.int .i64 (cnt + 1)) := World.cell?_setCell_same _ _ _ b2
  have b3f : ((wc.setCell ⟨F, 3, none⟩ (.int .i64 0)).setCell ⟨CB, 0, none⟩ (.int .i64 (cnt + 1))).frozen? ⟨CB, 0, none⟩ = false := by rw [World.frozen?_setCell]; exact b2f
  have hkp : ∀ b, b < W.heap.size → b ≠ P → b ≠ L → b ≠ M → b ≠ F → b ≠ CB → ((wc.setCell ⟨F, 3, none⟩ (.int .i64 0)).setCell ⟨CB, 0, none⟩ (.int .i64 (cnt + 1))).heap[b]? = W.heap[b]? := fun b hb h1 h2 h3 h4 h5 =>
    (((Below.heap_setCell _ ⟨CB, 0, none⟩ _ b h5).trans (Below.heap_setCell wc ⟨F, 3, none⟩ _ b h4)).trans (hfx.out.block b (by rw [HZV.out]; exact hb) h1 h2 h3)).trans (HKV.out b hb)
  rw [HG.out] at hZ
  have HZ := Lib.hid hZ
  have HB3 := Lib.hid b3
  have HB3f := Lib.hid b3f
  have HKP := Lib.hid hkp
  clear hZ b3 b3f hkp hY hFrY hgY oth hfr hP1 hk hfx e0 e1 e2 eq0 epb ecb ecf c0 c1 c2 cq cp KS1 HP HKV KD hF hR
  have hcz : IntKind.i64.wrap (cnt + 1) = cnt + 1 := IntWalk.i64_in _ (by omega)
  go_wp2
  go_ret
  exact ⟨rfl, HZ.out, HB3.out, HB3f.out, HKP.out⟩
end
end Go.Proofs.YtpkbopeddhgnlaaGreatDoor
