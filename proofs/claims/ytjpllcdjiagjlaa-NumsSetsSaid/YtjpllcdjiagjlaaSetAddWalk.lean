/-
  THE WALK OF (*Set).add, where no block grows too long.
-/
import Derived.Test.YtjpllcdjiagjlaaSetAdd
namespace Go.Proofs.Ytjpllcdjiagjlaa
open Go.RowKit

theorem grown_cell {w w' : World} {row : Option Nat} (hg : w.grownBy w' row) {g j : Nat} (hlt : g < w.heap.size) (hne : some g ≠ row) : w'.cell? ⟨g, j, none⟩ = w.cell? ⟨g, j, none⟩ :=
  World.cell?_of_block (w := w) (a := ⟨g, j, none⟩) (hg.block g hlt hne)

/-- What the call of Insert leaves, told in the walk: the cells that are read behind it open, all else hidden. -/
def InsLeft (W2 : World) (B : Nat → Prop) (S G C : Nat) (cnt : Int) (bl : List Blk) (p q : Nat) (n : Int) (b' : Blk) (w' : World) : Prop :=
  SetMid (w'.setCell ⟨G, p, none⟩ b'.val) B S G C cnt (bl.set p b') ∧ b'.xs = ins (bl.getD p noBlk).xs q n ∧ Stay B W2 w'

theorem insert_left {W2 W : World} {B : Nat → Prop} {S G C : Nat} {cnt : Int} {bl : List Blk} (hm : SetMid W2 B S G C cnt bl) (hb : Below W2.heap.size W2 W) {p : Nat} (hp : p < bl.length) {q : Nat} (hq : q ≤ (bl.getD p noBlk).xs.length)
    (hlen : (bl.getD p noBlk).xs.length ≤ 1000) (hB : Bd B W2.heap.size) (n : Int) :
    Calls Try.prog 29 #[.slice (some ⟨(bl.getD p noBlk).g, 0, none⟩) (bl.getD p noBlk).xs.length (bl.getD p noBlk).cap, .int .i64 q, .slice (some ⟨W.heap.size, 0, none⟩) 1 1] (W.alloc (.cells #[.int .i64 n] 3))
      fun e w' => ∃ b' : Blk, e = .returned (.slice (some ⟨b'.g, 0, none⟩) b'.xs.length b'.cap) ∧ w'.cell? ⟨S, 0, none⟩ = some (.slice (some ⟨G, 0, none⟩) bl.length C) ∧
        w'.cell? ⟨G, p, none⟩ = some (bl.getD p noBlk).val ∧ w'.frozen? ⟨G, p, none⟩ = false ∧ InsLeft W2 B S G C cnt bl p q n b' w' := by
  have hmem := getD_mem hp
  have hbW : Below W2.heap.size W2 (W.alloc (.cells #[.int .i64 n] 3)) := hb.alloc hb.size _
  have hm1 := hm.below hbW
  have hmW := hm.below hb
  have ha := hm.apart
  rw [List.nodup_cons, List.nodup_cons] at ha
  obtain ⟨hS, hGn, hnd⟩ := ha
  have hgW : ∀ b ∈ bl, b.g < W.heap.size := fun b hb => by
    obtain ⟨c, _, hc, _⟩ := own_block (hmW.rows b hb)
    exact heap_lt hc
  have hv : (W.alloc (.cells #[.int .i64 n] 3)).heap[W.heap.size]? = some (.cells #[.int .i64 n] 3 (0, 0)) := by
    show (W.heap.push _)[W.heap.size]? = _
    simp
  refine (insert_any (bl.getD p noBlk) q W.heap.size 0 n (W.alloc (.cells #[.int .i64 n] 3)) (hm1.rows _ hmem) hq hlen hv (by have := hgW _ hmem; omega)).mono ?_
  rintro e w' ⟨b', rfl, hxs, hrow, hg, hb', _⟩
  have hSlt := heap_lt hm1.top
  have hGlt : G < (W.alloc (.cells #[.int .i64 n] 3)).heap.size := by
    obtain ⟨c, _, hc, _⟩ := own_block hm1.blocks
    exact heap_lt hc
  have hSg : S ≠ (bl.getD p noBlk).g := fun e => hS (by rw [e]; exact List.mem_cons_of_mem _ (List.mem_map_of_mem hmem))
  have hGg : G ≠ (bl.getD p noBlk).g := fun e => hGn (by rw [e]; exact List.mem_map_of_mem hmem)
  have c1 := grown_cell hg (j := 0) hSlt (fun e => hSg (by simpa using e))
  have c2 := grown_cell hg (j := p) hGlt (fun e => hGg (by simpa using e))
  have hgo := hg.block G hGlt (fun e => hGg (by simpa using e))
  refine ⟨b', rfl, by rw [c1]; exact hm1.s0, by rw [c2, hm1.g0 p hp], ?_, hm1.put hp b' hrow hg hb' (not_either (hm.baseb hmem) (hB.mono hbW.size) hb'), hxs, ?_⟩
  · rw [World.frozen?_of_block (w := W.alloc (.cells #[.int .i64 n] 3)) (a := ⟨G, p, none⟩) hgo]
    exact hm1.gf p
  · exact (stay_of hbW hB).grown hg (hB.mono hbW.size) (fun k hk => by cases hk; exact hm.baseb hmem)

/-- What is left behind Insert and the store: told in the walk. -/
def AddLeft (W2 : World) (B : Nat → Prop) (S G C : Nat) (cnt : Int) (bl : List Blk) (p q : Nat) (n : Int) (b' : Blk) (w' : World) : Prop :=
  SetMid w' B S G C cnt (bl.set p b') ∧ b'.xs = ins (bl.getD p noBlk).xs q n ∧ Stay B W2 w'

theorem add_done {W2 w' : World} {B : Nat → Prop} {S G C : Nat} {cnt : Int} {bl : List Blk} {p q m : Nat} {n : Int} {b' : Blk} (h : InsLeft W2 B S G C cnt bl p q n b' w') (hp : p < bl.length) (hm : m = bl.length) :
    ∃ b2 : Blk, Hid (AddLeft W2 B S G C cnt bl p q n b2 (w'.setCell ⟨G, p, none⟩ (.slice (some ⟨b'.g, 0, none⟩) b'.xs.length b'.cap))) ∧
      (w'.setCell ⟨G, p, none⟩ (.slice (some ⟨b'.g, 0, none⟩) b'.xs.length b'.cap)).cell? ⟨S, 0, none⟩ = some (.slice (some ⟨G, 0, none⟩) m C) ∧
      (w'.setCell ⟨G, p, none⟩ (.slice (some ⟨b'.g, 0, none⟩) b'.xs.length b'.cap)).cell? ⟨G, p, none⟩ = some (.slice (some ⟨b2.g, 0, none⟩) b2.xs.length b2.cap) := by
  obtain ⟨h1, h2, h3⟩ := h
  have hB : ¬ B G := h1.bases
  refine ⟨b', ⟨h1, h2, h3.setCell hB _⟩, ?_, ?_⟩
  · have := h1.s0
    rw [List.length_set, ← hm] at this
    exact this
  · have := h1.g0 p (by rw [List.length_set]; exact hp)
    rw [set_getD hp] at this
    exact this

theorem sum_set : ∀ (bl : List Blk) (p : Nat) (b' : Blk), p < bl.length → b'.xs.length = (bl.getD p noBlk).xs.length + 1 →
    ((bl.set p b').map (fun b => b.xs.length)).sum = (bl.map (fun b => b.xs.length)).sum + 1
  | [], p, b', h, _ => by simp at h
  | a :: l, 0, b', _, h => by
    have h' : b'.xs.length = a.xs.length + 1 := h
    simp only [List.set_cons_zero, List.map_cons, List.sum_cons]; omega
  | a :: l, p + 1, b', h, h2 => by
    have h3 : p < l.length := by simpa using h
    have h4 : b'.xs.length = (l.getD p noBlk).xs.length + 1 := h2
    have := sum_set l p b' h3 h4
    simp only [List.set_cons_succ, List.map_cons, List.sum_cons, this]
    omega

set_option maxHeartbeats 4000000 in
theorem add_walk (S : Nat) (B : Nat → Prop) (p q f : Nat) (a0 : Nat) (n : Int) (bl : List Blk) (w : World) (hset : SetIs w B S bl) (hok : BlOk bl) (h0 : 0 < bl.length) (hB : Bd B w.heap.size)
    (hf : Calls Try.prog 20 #[.pointer (some ⟨S, 0, none⟩), .int .i64 n] w fun e w' => e = .returned (.tuple #[.int .i64 f, .int .i64 a0, .bool false]) ∧ Below w.heap.size w w')
    (hp : p < bl.length) (hq : q ≤ (bl.getD p noBlk).xs.length) (hcase : (f < bl.length ∧ p = f ∧ q = a0) ∨ (f = bl.length ∧ p + 1 = bl.length ∧ q = (bl.getD p noBlk).xs.length)) (hshort : (bl.getD p noBlk).xs.length + 1 ≤ 256) :
    Calls Try.prog 22 #[.pointer (some ⟨S, 0, none⟩), .int .i64 n] w fun e w' => e = .returned (.tuple #[]) ∧ (∃ b', SetIs w' B S (bl.set p b') ∧ b'.xs = ins (bl.getD p noBlk).xs q n) ∧ Stay B w w' := by
  have hcnt := hset.lens hok
  have hmem := getD_mem hp
  have few := hok.few
  have hblen := (hok.ne _ hmem).2
  obtain ⟨cnt, hcn⟩ : ∃ cnt : Int, cnt = ((bl.map (fun b => b.xs.length)).sum : Nat) := ⟨_, rfl⟩
  have hcnt1 : 0 ≤ cnt := by omega
  have hcnt2 : cnt ≤ 100000000 := by omega
  have HCN := Lib.hid hcn; clear hcn
  have HF := Lib.hid hf; clear hf
  have HC := Lib.hid hcase; clear hcase
  have hne0 : ((bl.length : Int) == 0) = false := by rw [beq_eq_false_iff_ne]; omega
  go_enter Try.func22, Try.ntmps22
  go_wp2_with fail
  refine HF.out.mono ?_
  rintro e w1 ⟨rfl, hb1⟩
  obtain ⟨G, C, hmid⟩ := (hset.below hb1).mid h0
  rw [← HCN.out] at hmid
  have hs0 := hmid.s0
  have hs1 := hmid.s1
  have hsf := hmid.sf 1
  have HM := Lib.hid hmid; clear hmid
  go_upto_if 40 with (fail)
  go_outline
  generalize hW2 : w1.setCell ⟨S, 1, none⟩ (.int .i64 (cnt + 1)) = W2
  have hm2 := HM.out.count (cnt + 1)
  rw [hW2] at hm2
  have hbB : Stay B w W2 := by rw [← hW2]; exact (stay_of hb1 hB).setCell hset.base _
  have hs02 := hm2.s0
  have hg0 := hm2.g0 p hp
  have HM2 := Lib.hid hm2; clear hm2
  have HW2 := Lib.hid hW2; clear hW2
  clear hs0 hs1 hsf HM
  go_cut [4, 5] (fun s4 s5 wx => s4 = .int .i64 p ∧ s5 = .int .i64 q ∧ wx = W2)
  case first =>
    rcases HC.out with ⟨hfl, rfl, rfl⟩ | ⟨hf1, hp1, hq1⟩
    · have hneb : ((p : Int) == (bl.length : Int)) = false := by rw [beq_eq_false_iff_ne]; omega
      clear HC
      go_wp2_with fail
      go_meet
      exact ⟨rfl, rfl, rfl⟩
    · clear HC
      have hneb : ((f : Int) == (bl.length : Int)) = true := by rw [beq_iff_eq]; omega
      have hf2 : (f : Int) - 1 = (p : Int) := by omega
      have hpl : (p : Int) < (bl.length : Int) := by omega
      unfold Blk.val at hg0
      rw [← hq1] at hg0
      clear hf1 hp1 hq1 hq hshort hblen
      go_wp2_with fail
      go_meet
      exact ⟨rfl, rfl, rfl⟩
  case rest =>
    obtain ⟨rfl, rfl, rfl⟩ := hcut
    have HI := Lib.hid (insert_left HM2.out (Below.drew (Below.refl _ _)) hp hq hblen (Bd.mono hB hbB.size) n)
    have hgf := HM2.out.gf p
    have lS := cell_lt hs02
    have lG := cell_lt hg0
    have nS := World.new_ne _ _ hs02
    have nG := World.new_ne _ _ hg0
    have hpl : (p : Int) < (bl.length : Int) := by omega
    obtain ⟨b, hb⟩ : ∃ b, b = bl.getD p noBlk := ⟨_, rfl⟩
    obtain ⟨m, hm⟩ : ∃ m, m = bl.length := ⟨_, rfl⟩
    have HBB := Lib.hid hb
    have HMM := Lib.hid hm
    rw [← hb] at HI hg0 hshort
    rw [← hm] at HI hs02 hpl few
    clear hb hm
    unfold Blk.val at hg0
    unfold Blk.val at HI
    have HI2 : Hid (Calls Try.prog 29 #[.slice (some ⟨b.g, 0, none⟩) b.xs.length b.cap, .int .i64 q, .slice (some ⟨wc.heap.size, 0, none⟩) 1 1] (wc.alloc (.cells #[.int .i64 n] 3)).drew
      fun e w' => ∃ b' : Blk, e = .returned (.slice (some ⟨b'.g, 0, none⟩) b'.xs.length b'.cap) ∧ w'.cell? ⟨S, 0, none⟩ = some (.slice (some ⟨G, 0, none⟩) m C) ∧
        w'.cell? ⟨G, p, none⟩ = some (.slice (some ⟨b.g, 0, none⟩) b.xs.length b.cap) ∧ w'.frozen? ⟨G, p, none⟩ = false ∧ InsLeft wc B S G C (cnt + 1) bl p q n b' w') := HI
    clear HI
    have HBI := Lib.hid hbB; clear hbB
    have HSH := Lib.hid hshort; clear hshort
    have HQ := Lib.hid hq
    clear hset hok h0 hB HF hq hmem few hblen hcnt hne0 HC HM2 HW2 hb1
    go_upto_region 8 with (fail)
    go_cut [] (fun wx => ∃ b' : Blk, Hid (AddLeft wc B S G C (cnt + 1) bl p q n b' wx) ∧ wx.cell? ⟨S, 0, none⟩ = some (.slice (some ⟨G, 0, none⟩) m C) ∧ wx.cell? ⟨G, p, none⟩ = some (.slice (some ⟨b'.g, 0, none⟩) b'.xs.length b'.cap))
    case first =>
      go_region_with (first | (go_at_call 29; refine HI2.out.mono ?_; rintro e w' ⟨b', rfl, c1, c2, c3, HL⟩))
      all_goals (go_wp2_with fail; go_meet)
      all_goals exact add_done HL hp HMM.out
    case rest =>
      obtain ⟨b', hleft, s0, g0⟩ := hcut
      have hl : b'.xs.length = b.xs.length + 1 := by rw [hleft.out.2.1, ← HBB.out, ins_len _ _ _ (by rw [HBB.out]; exact HQ.out)]
      have hl2 : (b'.xs.length : Int) ≤ 256 := by have := HSH.out; omega
      have HL2 := Lib.hid hl; clear hl
      have hpl2 : (p : Int) < (m : Int) := hpl
      go_wp2
      go_end0
      refine ⟨rfl, ⟨b', hleft.out.1.is ?_, by rw [hleft.out.2.1]; first | rfl | (rw [List.getD_eq_getElem?_getD, List.getElem?_eq_getElem hp]; rfl)⟩, HBI.out.trans hleft.out.2.2⟩
      rw [sum_set bl p b' hp (by rw [HL2.out, HBB.out]), HCN.out]
      simp
end Go.Proofs.Ytjpllcdjiagjlaa
