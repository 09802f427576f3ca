/-
  THE CONTRACT OF (*Set).join: two short neighbours become one block, or all stays.
-/
import Derived.Test.YtjpllcdjiagjlaaSetDel
import Derived.Test.YtjpllcdjiagjlaaSetPure
import Derived.Deep.AppendLies
import Derived.Deep.RegionLaw
namespace Go.Proofs.Ytjpllcdjiagjlaa
open Go.RowKit

/-- append of a block to another, as a step of a region that draws. -/
theorem step_append_blk {ops : Array Oper} {o : Oper} {a : Act} {w : World} {K : Act → World → Prop} {Q : Exit → Act → World → Prop} {E : Prop} (hg : o.guard = none) (s x : Operand)
    (hop : o.op = Op.call { callee := Callee.builtin Builtin.append, args := #[s, x], argTypes := #[22, 22] }) (B : Nat) (b d : Blk) (n1 n2 : Nat) (e1 : n1 = b.xs.length) (e2 : n2 = d.xs.length) (hs : a.eval s = .slice (some ⟨b.g, 0, none⟩) n1 b.cap) (hx : a.eval x = .slice (some ⟨d.g, 0, none⟩) n2 d.cap)
    (hb : w.ownsRow B 3 1 b.val b.xs.length (ints b.xs)) (hd : w.ownsRow B 3 1 d.val d.xs.length (ints d.xs)) (h0 : 0 < d.xs.length) (hl : b.xs.length + d.xs.length ≤ 100000) (hB : B ≤ w.heap.size)
    (hK : ∀ (c : Blk) w', c.xs = b.xs ++ d.xs → w'.ownsRow B 3 1 c.val c.xs.length (ints c.xs) → w.grownBy w' (some b.g) → (c.g = b.g ∨ w.heap.size ≤ c.g) → K (a.put o.dst (.slice (some ⟨c.g, 0, none⟩) (n1 + n2) c.cap)) w') :
    if Region.wanted o (yielded ops a.tmps) = true then Oper.wp Try.prog o a w K Q else E := by
  subst e1 e2
  obtain ⟨i0, hi, hz0, hz1, hz2⟩ := info_parts infoI
  refine step_append_lies w hg s x _ hop B 3 i0 _ 1 8 Try.underlying22 hi hz0 hz1 hz2 rfl (by omega) b.val b.xs.length (ints b.xs) hs hb ⟨d.g, 0, none⟩ d.xs.length d.cap (ints d.xs) hx (by rw [ints_len]; omega) (fun j u hj => owns_cells hd j u hj) (one_cell _) h0
    (by unfold maxLen; omega) (by omega) hB _ rfl ?_
  intro g cap w' hown hgr hgg _
  refine hK ⟨g, cap, b.xs ++ d.xs⟩ w' rfl ?_ hgr ?_
  · simp only [Blk.val]
    rw [← ints_append, List.length_append]
    exact hown
  · rcases hgg with h | h
    · left
      have : b.g = g := by simpa [Blk.val, Value.ownBlock] using h
      exact this.symm
    · exact .inr (by show w.heap.size ≤ g; omega)

/-- A block less. -/
theorem SetMid.rem {w w' : World} {B : Nat → Prop} {S G C : Nat} {cnt : Int} {bl : List Blk} (h : SetMid w B S G C cnt bl) {i : Nat} (hi : i < bl.length)
    (hrow : w'.ownsRow 0 22 1 (.slice (some ⟨G, 0, none⟩) (bl.length - 1) C) (bl.length - 1) ((bl.take i ++ bl.drop (i + 1)).map Blk.val)) (hg : w.grownBy w' (some G)) :
    SetMid (w'.setCell ⟨S, 0, none⟩ (.slice (some ⟨G, 0, none⟩) (bl.length - 1) C)) B S G C cnt (bl.take i ++ bl.drop (i + 1)) := by
  have ha := h.apart
  have hSlt := heap_lt h.top
  rw [List.nodup_cons, List.nodup_cons] at ha
  obtain ⟨hS, hGn, hnd⟩ := ha
  have hSG : S ≠ G := fun e => hS (by rw [e]; simp)
  have hl : (bl.take i ++ bl.drop (i + 1)).length = bl.length - 1 := by rw [List.length_append, List.length_take, List.length_drop]; omega
  have hsub : (bl.take i ++ bl.drop (i + 1)).Sublist bl := by
    rw [← List.eraseIdx_eq_take_drop_succ]; exact List.eraseIdx_sublist _ _
  have hmem : ∀ c ∈ bl.take i ++ bl.drop (i + 1), c ∈ bl := fun c hc => hsub.subset hc
  have hgm : ∀ x ∈ (bl.take i ++ bl.drop (i + 1)).map Blk.g, x ∈ bl.map Blk.g := fun x hx => (hsub.map Blk.g).subset hx
  have hS' : w'.heap[S]? = w.heap[S]? := hg.block S hSlt (fun e => hSG (by simpa using e))
  refine ⟨?_, ?_, ?_, fun x hx => h.base x (by
    rcases List.mem_cons.1 hx with rfl | hx
    · simp
    · rcases List.mem_cons.1 hx with rfl | hx
      · simp
      · exact List.mem_cons_of_mem _ (List.mem_cons_of_mem _ (hgm x hx))), fun c hc => ?_⟩
  · rw [hl]; simp [World.setCell, Array.getElem?_modify, hS', h.top]
  · rw [hl]
    exact owns_set hrow _ _ (by simp [Value.ownBlock]; exact Ne.symm hSG)
  · rw [List.nodup_cons, List.nodup_cons]
    refine ⟨fun hm => ?_, fun hm => hGn (hgm _ hm), (hsub.map Blk.g).nodup hnd⟩
    rcases List.mem_cons.1 hm with e | e
    · exact hSG e
    · exact hS (List.mem_cons_of_mem _ (hgm _ e))
  · have hcm := hmem c hc
    refine owns_set (owns_grown (h.rows c hcm) hg (.inl ?_)) _ _ ?_
    · simp only [Blk.val, Value.ownBlock]; intro e; exact hGn (by rw [← show c.g = G by simpa using e]; exact List.mem_map_of_mem hcm)
    · simp only [Blk.val, Value.ownBlock]; intro e; exact hS (by rw [← show c.g = S by simpa using e]; exact List.mem_cons_of_mem _ (List.mem_map_of_mem hcm))

/-- The row's Delete and what is stored behind it. -/
theorem rem_left {W w0 : World} {B : Nat → Prop} {S G C i : Nat} {cnt : Int} {bl : List Blk} (hm : SetMid W B S G C cnt bl) (hi : i < bl.length) (hB : Bd B W.heap.size) (hb : Stay B w0 W) :
    Calls Try.prog 32 #[.slice (some ⟨G, 0, none⟩) bl.length C, .int .i64 i, .int .i64 (i + 1)] W fun e w' => e = .returned (.slice (some ⟨G, 0, none⟩) (bl.length - 1) C) ∧
      Hid (SetMid (w'.setCell ⟨S, 0, none⟩ (.slice (some ⟨G, 0, none⟩) (bl.length - 1) C)) B S G C cnt (bl.take i ++ bl.drop (i + 1))) ∧ (∃ x, w'.cell? ⟨S, 0, none⟩ = some x) ∧ w'.frozen? ⟨S, 0, none⟩ = false ∧ Stay B w0 w' := by
  refine (delRow_any G C i 0 bl W hm.blocks hi).mono ?_
  rintro e w' ⟨rfl, hrow, hg⟩
  have ha := hm.apart
  rw [List.nodup_cons] at ha
  have hSG : S ≠ G := fun e => ha.1 (by rw [e]; simp)
  have hS' := hg.block S (heap_lt hm.top) (fun e => hSG (by simpa using e))
  exact ⟨rfl, hm.rem hi hrow hg, ⟨_, by rw [World.cell?_of_block (a := ⟨S, 0, none⟩) hS']; exact hm.s0⟩, by rw [World.frozen?_of_block (a := ⟨S, 0, none⟩) hS']; exact hm.sf 0, hb.grown hg hB (fun k hk => by cases hk; exact hm.bases)⟩

/-! ### nothing to join -/
set_option maxHeartbeats 1000000 in
theorem join_low (S : Nat) (w : World) :
    Calls Try.prog 33 #[.pointer (some ⟨S, 0, none⟩), .int .i64 (-1)] w fun e w' => e = .returned (.tuple #[]) ∧ ∃ q, w' = w.drewN q := by
  go_enter Try.func33, Try.ntmps33
  go_wp2_with fail
  go_quiet (fail)
  go_wp2
  exact bodyPost_ret (v := .tuple #[]) (by simp [results, Try.results33, go_sem]) rfl ⟨rfl, _, rfl⟩

set_option maxHeartbeats 1000000 in
theorem join_top (S : Nat) (B : Nat → Prop) (G C p : Nat) (cnt : Int) (bl : List Blk) (w : World) (hm : SetMid w B S G C cnt bl) (hp : p + 1 = bl.length) (few : bl.length ≤ 100000) :
    Calls Try.prog 33 #[.pointer (some ⟨S, 0, none⟩), .int .i64 p] w fun e w' => e = .returned (.tuple #[]) ∧ ∃ q, w' = w.drewN q := by
  have hs0 := hm.s0
  clear hm
  obtain ⟨m, hmm⟩ : ∃ m, m = bl.length := ⟨_, rfl⟩
  rw [← hmm] at hs0 few hp
  clear hmm
  have h1 : decide ((p : Int) < 0) = false := by simp
  have h3 : decide ((m : Int) ≤ (p : Int) + 1) = true := by simp; omega
  go_enter Try.func33, Try.ntmps33
  go_wp2_with fail
  go_quiet (fail)
  go_wp2
  exact bodyPost_ret (v := .tuple #[]) (by simp [results, Try.results33, go_sem]) rfl ⟨rfl, _, rfl⟩

set_option maxHeartbeats 1000000 in
theorem join_long (S : Nat) (B : Nat → Prop) (G C p : Nat) (cnt : Int) (bl : List Blk) (w : World) (hm : SetMid w B S G C cnt bl) (hp : p + 1 < bl.length) (few : bl.length ≤ 100000) (hlen : ∀ b ∈ bl, b.xs.length ≤ 256)
    (hlong : 128 < (bl.getD p noBlk).xs.length + (bl.getD (p + 1) noBlk).xs.length) :
    Calls Try.prog 33 #[.pointer (some ⟨S, 0, none⟩), .int .i64 p] w fun e w' => e = .returned (.tuple #[]) ∧ ∃ q, w' = w.drewN q := by
  have hs0 := hm.s0
  have hg0 := hm.g0 p (by omega)
  have hg1 := hm.g0 (p + 1) hp
  have hl0 := hlen _ (getD_mem (show p < bl.length by omega))
  have hl1 := hlen _ (getD_mem hp)
  clear hm hlen
  unfold Blk.val at hg0 hg1
  obtain ⟨b, hb⟩ : ∃ b, b = bl.getD p noBlk := ⟨_, rfl⟩
  obtain ⟨d, hd⟩ : ∃ d, d = bl.getD (p + 1) noBlk := ⟨_, rfl⟩
  rw [← hb] at hg0 hl0 hlong
  rw [← hd] at hg1 hl1 hlong
  obtain ⟨n1, hn1⟩ : ∃ n1, n1 = b.xs.length := ⟨_, rfl⟩
  obtain ⟨n2, hn2⟩ : ∃ n2, n2 = d.xs.length := ⟨_, rfl⟩
  rw [← hn1] at hg0 hl0 hlong
  rw [← hn2] at hg1 hl1 hlong
  obtain ⟨m, hmm⟩ : ∃ m, m = bl.length := ⟨_, rfl⟩
  rw [← hmm] at hs0 few hp
  clear hmm hb hd hn1 hn2
  have h1 : decide ((p : Int) < 0) = false := by simp
  have h3 : decide ((m : Int) ≤ (p : Int) + 1) = false := by simp; omega
  have h4 : decide ((128 : Int) < (n1 : Int) + (n2 : Int)) = true := by simp; omega
  have hpl : (p : Int) < (m : Int) := by omega
  have hpl1 : (p : Int) + 1 < (m : Int) := by omega
  have hp0 : (0 : Int) ≤ (p : Int) + 1 := by omega
  have hpn : ((p : Int) + 1).toNat = p + 1 := by omega
  go_enter Try.func33, Try.ntmps33
  go_wp2_with fail
  go_quiet (fail)
  go_wp2
  exact bodyPost_ret (v := .tuple #[]) (by simp [results, Try.results33, go_sem]) rfl ⟨rfl, _, rfl⟩

theorem join_left {W w9 w0 : World} {B : Nat → Prop} {S G C p : Nat} {cnt : Int} {bl : List Blk} (hm : SetMid W B S G C cnt bl) (hp : p < bl.length) (c : Blk) (hrow : w9.ownsRow 0 3 1 c.val c.xs.length (ints c.xs)) (hgr : W.grownBy w9 (some (bl.getD p noBlk).g))
    (hcg : c.g = (bl.getD p noBlk).g ∨ W.heap.size ≤ c.g) (hb : Stay B w0 W) (hB : Bd B W.heap.size) :
    Hid (SetMid (w9.setCell ⟨G, p, none⟩ c.val) B S G C cnt (bl.set p c)) ∧ w9.cell? ⟨S, 0, none⟩ = some (.slice (some ⟨G, 0, none⟩) bl.length C) ∧ w9.cell? ⟨G, p, none⟩ = some (bl.getD p noBlk).val ∧ w9.frozen? ⟨G, p, none⟩ = false ∧ Hid (Stay B w0 (w9.setCell ⟨G, p, none⟩ c.val)) := by
  have hmem := getD_mem hp
  have ha := hm.apart
  rw [List.nodup_cons, List.nodup_cons] at ha
  obtain ⟨hS, hGn, hnd⟩ := ha
  have hGg : G ≠ (bl.getD p noBlk).g := fun e => hGn (by rw [e]; exact List.mem_map.2 ⟨_, hmem, rfl⟩)
  have hGlt := hm.lts G (by simp)
  have hgo := hgr.block G hGlt (fun e => hGg (by simpa using e))
  have hSg : S ≠ (bl.getD p noBlk).g := fun e => hS (by rw [e]; exact List.mem_cons_of_mem _ (List.mem_map.2 ⟨_, hmem, rfl⟩))
  have hso := hgr.block S (heap_lt hm.top) (fun e => hSg (by simpa using e))
  refine ⟨hm.put hp c hrow hgr hcg (not_either (hm.baseb hmem) hB hcg), by rw [World.cell?_of_block (a := ⟨S, 0, none⟩) hso]; exact hm.s0, ?_, ?_, (hb.grown hgr hB (fun k hk => ?_)).setCell hm.bases _⟩
  · rw [World.cell?_of_block (a := ⟨G, p, none⟩) hgo]; exact hm.g0 p hp
  · rw [World.frozen?_of_block (a := ⟨G, p, none⟩) hgo]; exact hm.gf p
  · cases hk
    exact hm.baseb hmem

def JoinPost (w : World) (B : Nat → Prop) (S G C p : Nat) (cnt : Int) (bl : List Blk) (e : Ending) (w' : World) : Prop :=
  e = .returned (.tuple #[]) ∧ Stay B w w' ∧ ∃ c : Blk, SetMid w' B S G C cnt ((bl.set p c).take (p + 1) ++ (bl.set p c).drop (p + 1 + 1)) ∧ c.xs = (bl.getD p noBlk).xs ++ (bl.getD (p + 1) noBlk).xs

set_option maxHeartbeats 1000000 in
theorem join_do (S : Nat) (B : Nat → Prop) (G C p : Nat) (cnt : Int) (bl : List Blk) (w : World) (hm : SetMid w B S G C cnt bl) (hp : p + 1 < bl.length) (few : bl.length ≤ 100000) (hB : Bd B w.heap.size) (hne : ∀ b ∈ bl, 0 < b.xs.length)
    (hshort : (bl.getD p noBlk).xs.length + (bl.getD (p + 1) noBlk).xs.length ≤ 128) :
    Calls Try.prog 33 #[.pointer (some ⟨S, 0, none⟩), .int .i64 p] w (JoinPost w B S G C p cnt bl) := by
  have hs0 := hm.s0
  have hg0 := hm.g0 p (by omega)
  have hg1 := hm.g0 (p + 1) hp
  have hgf := hm.gf p
  have hn0 := hne _ (getD_mem hp)
  have HM := Lib.hid hm; clear hm hne
  unfold Blk.val at hg0 hg1
  obtain ⟨b, hb⟩ : ∃ b, b = bl.getD p noBlk := ⟨_, rfl⟩
  obtain ⟨d, hd⟩ : ∃ d, d = bl.getD (p + 1) noBlk := ⟨_, rfl⟩
  have HBB := Lib.hid hb
  have HDD := Lib.hid hd
  rw [← hb] at hg0 hshort
  rw [← hd] at hg1 hshort hn0
  obtain ⟨n1, hn1⟩ : ∃ n1, n1 = b.xs.length := ⟨_, rfl⟩
  obtain ⟨n2, hn2⟩ : ∃ n2, n2 = d.xs.length := ⟨_, rfl⟩
  have HN1 := Lib.hid hn1
  have HN2 := Lib.hid hn2
  rw [← hn1] at hg0 hshort
  rw [← hn2] at hg1 hshort hn0
  obtain ⟨m, hmm⟩ : ∃ m, m = bl.length := ⟨_, rfl⟩
  have HMM := Lib.hid hmm
  have HP := Lib.hid hp
  rw [← hmm] at hs0 few hp
  clear hmm hb hd hn1 hn2
  have h1 : decide ((p : Int) < 0) = false := by simp
  have h3 : decide ((m : Int) ≤ (p : Int) + 1) = false := by simp; omega
  have h4 : decide ((128 : Int) < (n1 : Int) + (n2 : Int)) = false := by simp; omega
  have hpl : (p : Int) < (m : Int) := by omega
  have hpl1 : (p : Int) + 1 < (m : Int) := by omega
  have hp0 : (0 : Int) ≤ (p : Int) + 1 := by omega
  have hpn : ((p : Int) + 1).toNat = p + 1 := by omega
  go_enter Try.func33, Try.ntmps33
  go_wp2_with fail
  go_quiet (fail)
  go_upto_region 1 with (fail)
  have hW : SetMid (w.drewN nq) B S G C cnt bl ∧ Stay B w (w.drewN nq) ∧ Bd B (w.drewN nq).heap.size := ⟨HM.out.below (below_drewN (Below.refl _ _) nq), stay_of (below_drewN (Below.refl _ _) nq) hB, hB⟩
  have c0 : (w.drewN nq).cell? ⟨S, 0, none⟩ = some (.slice (some ⟨G, 0, none⟩) m C) := hs0
  have c1 : (w.drewN nq).cell? ⟨G, p, none⟩ = some (.slice (some ⟨b.g, 0, none⟩) n1 b.cap) := hg0
  have c2 : (w.drewN nq).cell? ⟨G, p + 1, none⟩ = some (.slice (some ⟨d.g, 0, none⟩) n2 d.cap) := hg1
  generalize w.drewN nq = W at *
  obtain ⟨hmW, hbW, hBW⟩ := hW
  have hD : Below W.heap.size W W.drew := Below.drew (Below.refl _ _)
  have HMD := Lib.hid (hmW.below hD)
  have HBD := Lib.hid hbW.drew
  have HBZ : Hid (Bd B W.drew.heap.size) := hBW
  have R1 := Lib.hid (HMD.out.rows _ (getD_mem (show p < bl.length by have := HP.out; omega)))
  have R2 := Lib.hid (HMD.out.rows _ (getD_mem HP.out))
  rw [← HBB.out] at R1
  rw [← HDD.out] at R2
  clear hD hmW hbW hBW hs0 hg0 hg1 hgf HM h1 h3 h4
  go_cut [] (fun wx => ∃ c : Blk, Hid (c.xs = b.xs ++ d.xs) ∧ Hid (SetMid wx B S G C cnt (bl.set p c)) ∧ Hid (Stay B w wx))
  case first =>
    have hwr : IntKind.i64.wrap ((p : Int) + 1) = (p : Int) + 1 := by rw [IntKind.wrap_i64]; omega
    go_region_law ((refine step_append_blk (by rfl) _ _ (by rfl) 0 b d n1 n2 HN1.out HN2.out (by rfl) (by rfl) R1.out R2.out (by rw [← HN2.out]; exact hn0) (by rw [← HN1.out, ← HN2.out]; omega) (Nat.zero_le _) ?_; intro c w9 hcx hrow hgr hcg; have HCX := Lib.hid hcx; obtain ⟨q1, q0, q2, q3, q4⟩ := join_left HMD.out (show p < bl.length by have := HP.out; omega) c hrow (by rw [← HBB.out]; exact hgr) (by rw [← HBB.out]; exact hcg) HBD.out HBZ.out; have hcl : c.xs.length = n1 + n2 := (by rw [HCX.out, List.length_append, HN1.out, HN2.out]); unfold Blk.val at q1 q2 q4; rw [hcl] at q1 q4; rw [← HMM.out] at q0; rw [← HBB.out, ← HN1.out] at q2; clear hcx hrow hgr hcg hcl HMD HBD R1 R2))
    all_goals (go_wp2_with fail; go_meet)
    all_goals exact ⟨_, HCX, q1, q4⟩
  case rest =>
    obtain ⟨c, HCX, HQ, HBQ⟩ := hcut
    have hq0 := HQ.out.s0
    have hlq : (bl.set p c).length = m := by rw [List.length_set]; exact HMM.out.symm
    have hR := rem_left HQ.out (i := p + 1) (by rw [hlq]; exact hp) (Bd.mono hB HBQ.out.size) HBQ.out
    rw [hlq] at hR hq0
    rw [show ((p + 1 : Nat) : Int) = (p : Int) + 1 from by omega, show (p : Int) + 1 + 1 = (p : Int) + 2 from by omega] at hR
    have HR := Lib.hid hR
    have lS := cell_lt hq0
    clear hR hlq HMD HBD HBZ R1 R2 c0 c1 c2
    go_wp2_with fail
    refine HR.out.mono ?_
    rintro e w2 ⟨rfl, HS, ⟨x, hx⟩, hfz, hbw⟩
    have HBW := Lib.hid hbw; clear hbw
    have HBS := Lib.hid HQ.out.base0
    clear hq0 lS HQ HBQ HR
    go_wp2
    go_end0
    exact ⟨rfl, HBW.out.setCell HBS.out _, c, HS.out, by rw [HCX.out, HBB.out, HDD.out]⟩
end Go.Proofs.Ytjpllcdjiagjlaa
