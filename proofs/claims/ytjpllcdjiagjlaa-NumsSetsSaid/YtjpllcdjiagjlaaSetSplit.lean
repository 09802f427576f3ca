/-
  THE CONTRACT OF (*Set).split: a block of 257 numbers becomes two.
-/
import Derived.Test.YtjpllcdjiagjlaaSetRowIn
namespace Go.Proofs.Ytjpllcdjiagjlaa
open Go.RowKit

/-- A row's beginning. -/
theorem own_take {w : World} {B g n cap : Nat} {e : TypeId} {xs : List Value} (h : w.ownsRow B e 1 (.slice (some ⟨g, 0, none⟩) n cap) n xs) {k : Nat} (hk : k ≤ n) :
    w.ownsRow B e 1 (.slice (some ⟨g, 0, none⟩) k cap) k (xs.take k) := by
  obtain ⟨cur, hB, hg, hn, hm, hs, hl, _, _⟩ := own_block h
  have hl2 : (xs.take k).length = k := by rw [List.length_take]; omega
  have := own_cells (xs := xs.take k) hB hg hs (by omega) hm (fun j hj => by
    rw [h.cellAt j (by omega), List.getElem?_take, if_pos (by omega)])
  rw [hl2] at this
  exact this
theorem ints_take (l : List Int) (k : Nat) : (ints l).take k = ints (l.take k) := by unfold ints; rw [List.map_take]
theorem ints_len (l : List Int) : (ints l).length = l.length := by simp [ints]

def insB (bl : List Blk) (i : Nat) (b : Blk) : List Blk := bl.take i ++ b :: bl.drop i
theorem insB_val (bl : List Blk) (i : Nat) (b : Blk) : (insB bl i b).map Blk.val = insV (bl.map Blk.val) i b.val := by
  unfold insB insV; rw [List.map_append, List.map_cons, List.map_take, List.map_drop]
theorem insB_len (bl : List Blk) (i : Nat) (b : Blk) (h : i ≤ bl.length) : (insB bl i b).length = bl.length + 1 := by simp [insB]; omega
theorem insB_perm (bl : List Blk) (i : Nat) (b : Blk) : ((insB bl i b).map Blk.g).Perm (b.g :: bl.map Blk.g) := by
  unfold insB
  have h : (bl.take i ++ b :: bl.drop i).Perm (b :: (bl.take i ++ bl.drop i)) := List.perm_middle
  rw [List.take_append_drop] at h
  exact h.map Blk.g
theorem mem_insB {bl : List Blk} {i : Nat} {b c : Blk} (h : c ∈ insB bl i b) : c = b ∨ c ∈ bl := by
  unfold insB at h
  rcases List.mem_append.1 h with h | h
  · exact .inr (List.mem_of_mem_take h)
  · rcases List.mem_cons.1 h with h | h
    · exact .inl h
    · exact .inr (List.mem_of_mem_drop h)
theorem vals_one (bl : List Blk) : ∀ v ∈ bl.map Blk.val, v.oneCell' = true := by
  intro v hv
  obtain ⟨b, _, rfl⟩ := List.mem_map.1 hv
  rfl

/-- A block more. -/
theorem SetMid.ins {w w' : World} {B : Nat → Prop} {S G C : Nat} {cnt : Int} {bl : List Blk} (h : SetMid w B S G C cnt bl) (i : Nat) (b : Blk) (hb : w.ownsRow 0 3 1 b.val b.xs.length (ints b.xs))
    (hf : b.g ∉ S :: G :: bl.map Blk.g) {G' C' : Nat} (hrow : w'.ownsRow 0 22 1 (.slice (some ⟨G', 0, none⟩) (insV (bl.map Blk.val) i b.val).length C') (insV (bl.map Blk.val) i b.val).length (insV (bl.map Blk.val) i b.val))
    (hg : w.grownBy w' (some G)) (hG : G' = G ∨ w.heap.size ≤ G') (hnb : ¬ B b.g) (hnG : ¬ B G') :
    SetMid (w'.setCell ⟨S, 0, none⟩ (.slice (some ⟨G', 0, none⟩) (insV (bl.map Blk.val) i b.val).length C')) B S G' C' cnt (insB bl i b) := by
  have ha := h.apart
  have hSlt := heap_lt h.top
  rw [List.nodup_cons, List.nodup_cons] at ha
  obtain ⟨hS, hGn, hnd⟩ := ha
  have hSG : S ≠ G := fun e => hS (by rw [e]; simp)
  have hvl : (insV (bl.map Blk.val) i b.val).length = (insB bl i b).length := by rw [← insB_val, List.length_map]
  have glt : ∀ c ∈ bl, c.g < w.heap.size := fun c hc => by
    obtain ⟨cu, _, hcu, _⟩ := own_block (h.rows c hc)
    exact heap_lt hcu
  have hblt : b.g < w.heap.size := by
    obtain ⟨cu, _, hcu, _⟩ := own_block hb
    exact heap_lt hcu
  have hbS : b.g ≠ S := fun e => hf (by rw [e]; simp)
  have hbG : b.g ≠ G := fun e => hf (by rw [e]; simp)
  have hSG' : S ≠ G' := by rcases hG with e | e <;> omega
  have hnG' : ∀ c ∈ bl, c.g ≠ G' := fun c hc => by
    have := glt c hc
    rcases hG with e | e
    · rw [e]; intro e2; exact hGn (by rw [← e2]; exact List.mem_map_of_mem hc)
    · omega
  have hbG' : b.g ≠ G' := by rcases hG with e | e <;> omega
  have hS' : w'.heap[S]? = w.heap[S]? := hg.block S hSlt (fun e => hSG (by simpa using e))
  refine ⟨?_, ?_, ?_, fun x hx => ?_, fun c hc => ?_⟩
  · rw [hvl]; simp [World.setCell, Array.getElem?_modify, hS', h.top]
  · rw [insB_val, ← hvl]
    exact owns_set hrow _ _ (by simp [Value.ownBlock]; exact Ne.symm hSG')
  · have hp := insB_perm bl i b
    rw [List.nodup_cons, List.nodup_cons]
    refine ⟨fun hm => ?_, fun hm => ?_, ?_⟩
    · rcases List.mem_cons.1 hm with e | e
      · exact hSG' e
      · rcases List.mem_cons.1 (hp.mem_iff.1 e) with e | e
        · exact hbS e.symm
        · exact hS (List.mem_cons_of_mem _ e)
    · rcases List.mem_cons.1 (hp.mem_iff.1 hm) with e | e
      · exact hbG' e.symm
      · obtain ⟨c, hc, e2⟩ := List.mem_map.1 e
        exact hnG' c hc e2
    · rw [hp.nodup_iff, List.nodup_cons]
      exact ⟨fun hm => hf (List.mem_cons_of_mem _ (List.mem_cons_of_mem _ hm)), hnd⟩
  · rcases List.mem_cons.1 hx with rfl | hx
    · exact h.base0
    · rcases List.mem_cons.1 hx with rfl | hx
      · exact hnG
      · obtain ⟨c, hc, rfl⟩ := List.mem_map.1 hx
        rcases mem_insB hc with rfl | hc
        · exact hnb
        · exact h.baseb hc
  · have hcG : c.g ≠ G ∧ c.g ≠ S ∧ w.ownsRow 0 3 1 c.val c.xs.length (ints c.xs) := by
      rcases mem_insB hc with rfl | hc
      · exact ⟨hbG, hbS, hb⟩
      · exact ⟨fun e => hGn (by rw [← e]; exact List.mem_map_of_mem hc), fun e => hS (by rw [← e]; exact List.mem_cons_of_mem _ (List.mem_map_of_mem hc)), h.rows c hc⟩
    refine owns_set (owns_grown hcG.2.2 hg (.inl ?_)) _ _ ?_
    · simp only [Blk.val, Value.ownBlock]; intro e; exact hcG.1 (by simpa using e)
    · simp only [Blk.val, Value.ownBlock]; intro e; exact hcG.2.1 (by simpa using e)

theorem grown_refl (w : World) (r : Option Nat) : w.grownBy w r := ⟨rfl, rfl, rfl, Nat.le_refl _, fun _ _ _ => rfl⟩

/-- The lower half, in the same place. -/
theorem SetMid.lower {w : World} {B : Nat → Prop} {S G C : Nat} {cnt : Int} {bl : List Blk} (h : SetMid w B S G C cnt bl) {p : Nat} (hp : p < bl.length) {k : Nat} (hk : k ≤ (bl.getD p noBlk).xs.length) :
    SetMid (w.setCell ⟨G, p, none⟩ (.slice (some ⟨(bl.getD p noBlk).g, 0, none⟩) k (bl.getD p noBlk).cap)) B S G C cnt (bl.set p ⟨(bl.getD p noBlk).g, (bl.getD p noBlk).cap, (bl.getD p noBlk).xs.take k⟩) := by
  have hl : ((bl.getD p noBlk).xs.take k).length = k := by rw [List.length_take]; omega
  have := h.put hp ⟨(bl.getD p noBlk).g, (bl.getD p noBlk).cap, (bl.getD p noBlk).xs.take k⟩ (by
    have := own_take (h.rows _ (getD_mem hp)) hk
    rw [ints_take] at this
    simp only [Blk.val, hl]
    exact this) (grown_refl w _) (.inl rfl) (show ¬ B (bl.getD p noBlk).g from h.baseb (getD_mem hp))
  simp only [Blk.val, hl] at this
  exact this

/-- A row that isn't nil lies in a block of its own. -/
theorem own_some {w : World} {B n : Nat} {v : Value} {l : List Int} (h : w.ownsRow B 3 1 v n (ints l)) (hne : v ≠ .slice none 0 0) (hn : n = l.length) : ∃ b : Blk, b.xs = l ∧ v = b.val ∧ B ≤ b.g ∧ b.g < w.heap.size ∧ w.ownsRow B 3 1 b.val b.xs.length (ints b.xs) := by
  obtain ⟨h1, h2⟩ := h
  rcases h2 with ⟨hv, _⟩ | ⟨g, cap, cur, hv, hg, hc, hrest⟩
  · exact absurd hv hne
  · exact ⟨⟨g, cap, l⟩, rfl, by rw [hv, hn]; rfl, hg, heap_lt hc, by
      simp only [Blk.val]
      rw [← hn]
      exact ⟨h1, .inr ⟨g, cap, cur, rfl, hg, hc, hrest⟩⟩⟩

def SplitPost (w : World) (B : Nat → Prop) (S p : Nat) (cnt : Int) (bl : List Blk) (e : Ending) (w' : World) : Prop :=
  e = .returned (.tuple #[]) ∧ Stay B w w' ∧ ∃ G' C' lo hi, SetMid w' B S G' C' cnt (insB (bl.set p lo) (p + 1) hi) ∧ lo.xs = (bl.getD p noBlk).xs.take 128 ∧ hi.xs = (bl.getD p noBlk).xs.drop 128

theorem split_ins {W w1 : World} {B : Nat → Prop} {S G C p : Nat} {cnt : Int} {bl : List Blk} (lo hi : Blk) (hm : SetMid W B S G C cnt (bl.set p lo)) (hp : p < bl.length) (few : bl.length ≤ 100000) (hhi : W.ownsRow 0 3 1 hi.val hi.xs.length (ints hi.xs))
    (hf : hi.g ∉ S :: G :: (bl.set p lo).map Blk.g) (hB : Bd B W.heap.size) (hnhi : ¬ B hi.g) (hbw : Stay B w1 W) :
    Calls Try.prog 38 #[.slice (some ⟨G, 0, none⟩) bl.length C, .int .i64 (p + 1), .slice (some ⟨W.heap.size, 0, none⟩) 1 1] (W.alloc (.cells #[hi.val] 22))
      fun e w' => ∃ (G' C' n' : Nat), e = .returned (.slice (some ⟨G', 0, none⟩) n' C') ∧ Hid (SetMid (w'.setCell ⟨S, 0, none⟩ (.slice (some ⟨G', 0, none⟩) n' C')) B S G' C' cnt (insB (bl.set p lo) (p + 1) hi)) ∧ (∃ x, w'.cell? ⟨S, 0, none⟩ = some x) ∧ w'.frozen? ⟨S, 0, none⟩ = false ∧ Stay B w1 w' := by
  have hb1 : Below W.heap.size W (W.alloc (.cells #[hi.val] 22)) := (Below.refl _ _).alloc (Nat.le_refl _) _
  have hm1 := hm.below hb1
  obtain ⟨cG, hBG, hcG, _⟩ := own_block hm.blocks
  have hGlt := heap_lt hcG
  have hl : (bl.set p lo).length = bl.length := List.length_set
  have hv : (W.alloc (.cells #[hi.val] 22)).heap[W.heap.size]? = some (.cells #[hi.val] 22 (0, 0)) := by
    show (W.heap.push _)[W.heap.size]? = _
    simp
  have hb := hm1.blocks
  rw [hl] at hb
  have := rowIns_any G C bl.length (p + 1) W.heap.size 0 hi.val ((bl.set p lo).map Blk.val) (W.alloc (.cells #[hi.val] 22)) hb (by omega) few hv (by omega) (vals_one _) rfl
  refine this.mono ?_
  rintro e w' ⟨G', C', rfl, hrow, hg, hG, _⟩
  have ha := hm.apart
  rw [List.nodup_cons] at ha
  have hSG : S ≠ G := fun e => ha.1 (by rw [e]; simp)
  have hSlt := heap_lt hm1.top
  have hS' := hg.block S hSlt (fun e => hSG (by simpa using e))
  refine ⟨G', C', _, rfl, hm1.ins (p + 1) hi (owns_below hhi hb1) hf hrow hg hG hnhi (not_either hm.bases (hB.mono hb1.size) hG), ⟨_, by rw [World.cell?_of_block (a := ⟨S, 0, none⟩) hS']; exact hm1.s0⟩, by rw [World.frozen?_of_block (a := ⟨S, 0, none⟩) hS']; exact hm1.sf 0, ?_⟩
  exact (hbw.alloc hB _).grown hg (hB.mono hb1.size) (fun k hk => by cases hk; exact hm.bases)

theorem clone_row (b : Blk) (w : World) {B : Nat} (hb : w.ownsRow B 3 1 b.val b.xs.length (ints b.xs)) (k : Nat) (hk : k < b.xs.length) (hm : b.xs.length ≤ 1000) :
    Calls Try.prog 21 #[.slice (some ⟨b.g, k, none⟩) (b.xs.length - k) (b.cap - k)] w fun e w' => ∃ c : Blk, e = .returned (.slice (some ⟨c.g, 0, none⟩) (b.xs.length - k) c.cap) ∧ c.xs = b.xs.drop k ∧ w.heap.size ≤ c.g ∧ c.g < w'.heap.size ∧
      w'.ownsRow w.heap.size 3 1 c.val c.xs.length (ints c.xs) ∧ Below w.heap.size w w' := by
  have hl : (b.xs.drop k).length = b.xs.length - k := List.length_drop
  have h := Try.slices_Clone_int b.g k (b.xs.length - k) (b.cap - k) (b.xs.drop k) w (by omega) (by omega) (fun j hj => by
    rw [hl] at hj
    rw [hb.cellAt (k + j) (by omega)]
    unfold ints
    rw [List.getElem?_map, List.getD_eq_getElem?_getD, List.getElem?_drop, List.getElem?_eq_getElem (by omega)]; rfl)
  refine h.mono ?_
  rintro e w' ⟨v, rfl, hown, hne, hb'⟩
  rw [List.take_of_length_le (by omega)] at hown
  obtain ⟨c, hx, rfl, h1, h2, h3⟩ := own_some hown hne hl.symm
  exact ⟨c, by unfold Blk.val; rw [hx, hl], hx, h1, h2, h3, hb'⟩

theorem own_mono {w : World} {B B' n : Nat} {T : TypeId} {v : Value} {xs : List Value} (h : w.ownsRow B' T 1 v n xs) (hb : B ≤ B') : w.ownsRow B T 1 v n xs := by
  obtain ⟨h1, h2⟩ := h
  refine ⟨h1, ?_⟩
  rcases h2 with h2 | ⟨g, cap, cur, hv, hg, hrest⟩
  · exact .inl h2
  · exact .inr ⟨g, cap, cur, hv, by omega, hrest⟩
theorem SetMid.lts {w : World} {B : Nat → Prop} {S G C : Nat} {cnt : Int} {bl : List Blk} (h : SetMid w B S G C cnt bl) : ∀ x ∈ S :: G :: bl.map Blk.g, x < w.heap.size := by
  intro x hx
  rcases List.mem_cons.1 hx with rfl | hx
  · exact heap_lt h.top
  · rcases List.mem_cons.1 hx with rfl | hx
    · obtain ⟨c, _, hc, _⟩ := own_block h.blocks
      exact heap_lt hc
    · obtain ⟨b, hb, rfl⟩ := List.mem_map.1 hx
      obtain ⟨c, _, hc, _⟩ := own_block (h.rows b hb)
      exact heap_lt hc

theorem split_mid {w w1 wc : World} {B : Nat → Prop} {S G C p : Nat} {cnt : Int} {bl : List Blk} (hm : SetMid w B S G C cnt bl) (hb1 : Below w.heap.size w w1) (hp : p < bl.length) (hB : Bd B w.heap.size) {k : Nat} (hk : k ≤ (bl.getD p noBlk).xs.length) (c : Blk)
    (hcg : w.heap.size ≤ c.g) (hcr : w1.ownsRow w.heap.size 3 1 c.val c.xs.length (ints c.xs)) (hwc : wc = (w1.setCell ⟨G, p, none⟩ (.slice (some ⟨(bl.getD p noBlk).g, 0, none⟩) k (bl.getD p noBlk).cap)).drew) :
    SetMid wc B S G C cnt (bl.set p ⟨(bl.getD p noBlk).g, (bl.getD p noBlk).cap, (bl.getD p noBlk).xs.take k⟩) ∧ wc.ownsRow 0 3 1 c.val c.xs.length (ints c.xs) ∧
      c.g ∉ S :: G :: (bl.set p ⟨(bl.getD p noBlk).g, (bl.getD p noBlk).cap, (bl.getD p noBlk).xs.take k⟩).map Blk.g ∧ Bd B wc.heap.size ∧ Stay B w wc := by
  have hm1 := hm.below hb1
  have h1 := (hm1.lower hp hk).below (Below.drew (Below.refl _ _))
  rw [← hwc] at h1
  have hlt := hm.lts
  refine ⟨h1, ?_, fun hx => ?_, ?_, ?_⟩
  · have h2 := owns_below (owns_set (own_mono hcr (Nat.zero_le _)) ⟨G, p, none⟩ (.slice (some ⟨(bl.getD p noBlk).g, 0, none⟩) k (bl.getD p noBlk).cap) (by
      have := hlt G (by simp)
      simp [Blk.val, Value.ownBlock]; omega)) (Below.drew (Below.refl _ _))
    rw [← hwc] at h2
    exact h2
  · have := hlt c.g (by
      rcases List.mem_cons.1 hx with e | hx
      · rw [e]; simp
      · rcases List.mem_cons.1 hx with e | hx
        · rw [e]; simp
        · obtain ⟨d, hd, e⟩ := List.mem_map.1 hx
          rcases List.mem_or_eq_of_mem_set hd with hd | hd
          · rw [← e]; exact List.mem_cons_of_mem _ (List.mem_cons_of_mem _ (List.mem_map_of_mem hd))
          · rw [hd] at e
            rw [← e]; exact List.mem_cons_of_mem _ (List.mem_cons_of_mem _ (List.mem_map.2 ⟨_, getD_mem hp, rfl⟩)))
    omega
  · have := hb1.size
    rw [hwc]
    refine hB.mono ?_
    show _ ≤ (w1.setCell _ _).heap.size
    simp [World.setCell]; omega
  · rw [hwc]
    exact ((stay_of hb1 hB).setCell hm.bases _).drew

set_option maxHeartbeats 1000000 in
theorem split_any (S : Nat) (B : Nat → Prop) (G C p : Nat) (cnt : Int) (bl : List Blk) (w : World) (hm : SetMid w B S G C cnt bl) (hp : p < bl.length) (few : bl.length ≤ 100000) (hB : Bd B w.heap.size) (hL : (bl.getD p noBlk).xs.length = 257) :
    Calls Try.prog 30 #[.pointer (some ⟨S, 0, none⟩), .int .i64 p] w (SplitPost w B S p cnt bl) := by
  have hs0 := hm.s0
  have hg0 := hm.g0 p hp
  have hmem := getD_mem hp
  have HCl := Lib.hid (clone_row (bl.getD p noBlk) w (hm.rows _ hmem) 128 (by omega) (by omega))
  have HM := Lib.hid hm
  have hpl : (p : Int) < (bl.length : Int) := by omega
  have hcap : 257 ≤ (bl.getD p noBlk).cap := by
    obtain ⟨c, _, _, h, _⟩ := own_block (hm.rows _ hmem)
    omega
  obtain ⟨b, hb⟩ : ∃ b, b = bl.getD p noBlk := ⟨_, rfl⟩
  have HBB := Lib.hid hb
  rw [← hb] at hL hg0 HCl hcap
  unfold Blk.val at hg0
  rw [hL] at hg0 HCl
  obtain ⟨m, hmm⟩ : ∃ m, m = bl.length := ⟨_, rfl⟩
  have HMM := Lib.hid hmm
  rw [← hmm] at hs0 hpl few
  have HL := Lib.hid hL
  have HP := Lib.hid hp
  have lS := cell_lt hs0
  have lG := cell_lt hg0
  clear hm hmem hb hmm hL hp
  rw [show (257 : Nat) - 128 = 129 from rfl] at HCl
  have hcapZ : (128 : Int) ≤ (b.cap : Int) := by omega
  go_enter Try.func30, Try.ntmps30
  go_wp2_with fail
  refine HCl.out.mono ?_
  rintro e w1 ⟨c, rfl, hcx, hcg, hcl, hcrow, hb1⟩
  have hm1 := HM.out.below hb1
  have hs1 := hm1.s0
  have hg1 := hm1.g0 p HP.out
  have hgf := hm1.gf p
  unfold Blk.val at hg1
  rw [← HBB.out, HL.out] at hg1
  rw [← HMM.out] at hs1
  have HM1 := Lib.hid hm1; clear hm1
  have HB1 := Lib.hid hb1; clear hb1
  have HCR := Lib.hid hcrow; clear hcrow
  have HCX := Lib.hid hcx; clear hcx
  have HCG := Lib.hid hcg; clear hcg
  have HCLT := Lib.hid hcl; clear hcl
  clear hs0 hg0 HCl lS lG
  have lS := cell_lt hs1
  have lG := cell_lt hg1
  go_upto_region 3 with (fail)
  go_cut [] (fun wx => wx = (w1.setCell ⟨G, p, none⟩ (.slice (some ⟨b.g, 0, none⟩) 128 b.cap)).drew)
  case first =>
    go_region_with (fail)
    all_goals (go_wp2_with fail; go_meet)
    all_goals rfl
  case rest =>
    have hsp := split_mid HM.out HB1.out HP.out hB (k := 128) (by rw [← HBB.out, HL.out]; omega) c HCG.out HCR.out (wc := wc) (by rw [← HBB.out]; exact hcut)
    rw [← HBB.out] at hsp
    clear hcut
    obtain ⟨hmW, hhi, hf, hBW, hbW⟩ := hsp
    have hs2 := hmW.s0
    rw [List.length_set, ← HMM.out] at hs2
    have hI := split_ins ⟨b.g, b.cap, b.xs.take 128⟩ c hmW HP.out (by rw [← HMM.out]; exact few) hhi hf hBW (hB.not HCG.out) hbW
    have hcl : c.xs.length = 129 := by rw [HCX.out, List.length_drop, HL.out]
    unfold Blk.val at hI
    rw [hcl, ← HMM.out] at hI
    have HI := Lib.hid hI
    have HBS := Lib.hid HM.out.base0
    clear hI hmW hhi hf hBW hbW HM HM1 HB1 HCR HCG HCLT hs1 hg1 hgf lS lG hcl
    have lS := cell_lt hs2
    go_wp2_with fail
    refine HI.out.mono ?_
    rintro e w2 ⟨G', C', n', rfl, HS, ⟨x, hx⟩, hfz, hbw⟩
    have HBW := Lib.hid hbw; clear hbw
    go_wp2
    go_end0
    exact ⟨rfl, HBW.out.setCell HBS.out _, G', C', _, c, HS.out, by rw [HBB.out], by rw [HCX.out, HBB.out]⟩
end Go.Proofs.Ytjpllcdjiagjlaa
