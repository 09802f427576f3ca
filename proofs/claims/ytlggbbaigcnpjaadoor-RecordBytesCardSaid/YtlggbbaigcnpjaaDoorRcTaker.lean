/-
  THE CONTRACTS OF record's taker: a number, a text, a value, part by part.
-/
import Derived.Test.YtlggbbaigcnpjaaDoorNTake
import Derived.Test.YtlggbbaigcnpjaaDoorRcRights
namespace Go.Proofs.YtlggbbaigcnpjaaDoor
open Go.RowKit

/-- What a call that writes the taker in block G alone leaves behind. -/
structure TkPost (G : Nat) (W w' : World) (r : ByteArray) (b : Bool) : Prop where
  cell0 : w'.cell? ⟨G, 0, none⟩ = some (.string r)
  cell1 : w'.cell? ⟨G, 1, none⟩ = some (.bool b)
  froz : ∀ i, w'.frozen? ⟨G, i, none⟩ = false
  keep : ∀ p v, p.block ≠ G → W.cell? p = some v → w'.cell? p = some v
  keepf : ∀ p : Addr, p.block < W.heap.size → w'.frozen? p = W.frozen? p
  size : W.heap.size ≤ w'.heap.size
  bel : ∀ B w0, Below B w0 W → B ≤ G → Below B w0 w'
theorem far_ne {G : Nat} {p : Addr} (h : p.block ≠ G) (i : Nat) : (⟨G, i, none⟩ : Addr) ≠ p := fun e => h (by rw [← e])
theorem TkPost.trans {G : Nat} {W X Y : World} {r s : ByteArray} {b c : Bool} (h : TkPost G W X r b) (k : TkPost G X Y s c) : TkPost G W Y s c where
  cell0 := k.cell0
  cell1 := k.cell1
  froz := k.froz
  keep := fun p v hp hv => k.keep p v hp (h.keep p v hp hv)
  keepf := fun p hp => (k.keepf p (Nat.lt_of_lt_of_le hp h.size)).trans (h.keepf p hp)
  size := Nat.le_trans h.size k.size
  bel := fun B w0 hb hB => k.bel B w0 (h.bel B w0 hb hB) hB
/-- Behind a call that writes nothing that was there. -/
theorem TkPost.below {G : Nat} {W X Y : World} {r : ByteArray} {b : Bool} (h : TkPost G W X r b) (hb : Below X.heap.size X Y) : TkPost G W Y r b where
  cell0 := keep_cell hb h.cell0
  cell1 := keep_cell hb h.cell1
  froz := fun i => (hb.frozen (p := ⟨G, i, none⟩) (block_lt (p := ⟨G, 0, none⟩) h.cell0)).trans (h.froz i)
  keep := fun p v hp hv => keep_cell hb (h.keep p v hp hv)
  keepf := fun p hp => (hb.frozen (Nat.lt_of_lt_of_le hp h.size)).trans (h.keepf p hp)
  size := Nat.le_trans h.size hb.size
  bel := fun B w0 h0 hB => (h.bel B w0 h0 hB).trans (hb.mono (Nat.le_of_lt (Nat.lt_of_le_of_lt hB (block_lt h.cell0))))
theorem TkPost.same {G : Nat} {W X : World} {s : ByteArray} {b : Bool} (hb : Below W.heap.size W X) (c0 : W.cell? ⟨G, 0, none⟩ = some (.string s)) (c1 : W.cell? ⟨G, 1, none⟩ = some (.bool b)) (hf : ∀ i, W.frozen? ⟨G, i, none⟩ = false) : TkPost G W X s b where
  cell0 := keep_cell hb c0
  cell1 := keep_cell hb c1
  froz := fun i => (hb.frozen (p := ⟨G, i, none⟩) (block_lt (p := ⟨G, 0, none⟩) c0)).trans (hf i)
  keep := fun _ _ _ hv => keep_cell hb hv
  keepf := fun _ hp => hb.frozen hp
  size := hb.size
  bel := fun _ _ h0 hB => h0.trans (hb.mono (Nat.le_of_lt (Nat.lt_of_le_of_lt hB (block_lt c0))))
theorem TkPost.set0 {G : Nat} {W X : World} {s r : ByteArray} {b : Bool} (h : TkPost G W X s b) : TkPost G W (X.setCell ⟨G, 0, none⟩ (.string r)) r b where
  cell0 := World.cell?_setCell_same _ _ _ h.cell0
  cell1 := by rw [World.cell?_setCell_other _ _ _ _ (fun e => by injection e with _ e2; exact absurd e2 (by decide))]; exact h.cell1
  froz := fun i => by rw [World.frozen?_setCell]; exact h.froz i
  keep := fun p v hp hv => by rw [World.cell?_setCell_other _ _ _ _ (far_ne hp 0)]; exact h.keep p v hp hv
  keepf := fun p hp => by rw [World.frozen?_setCell]; exact h.keepf p hp
  size := by have := h.size; simpa [World.setCell] using this
  bel := fun B w0 h0 hB => (h.bel B w0 h0 hB).setCell hB _
theorem TkPost.set1 {G : Nat} {W X : World} {s : ByteArray} {b c : Bool} (h : TkPost G W X s b) : TkPost G W (X.setCell ⟨G, 1, none⟩ (.bool c)) s c where
  cell0 := by rw [World.cell?_setCell_other _ _ _ _ (fun e => by injection e with _ e2; exact absurd e2 (by decide))]; exact h.cell0
  cell1 := World.cell?_setCell_same _ _ _ h.cell1
  froz := fun i => by rw [World.frozen?_setCell]; exact h.froz i
  keep := fun p v hp hv => by rw [World.cell?_setCell_other _ _ _ _ (far_ne hp 1)]; exact h.keep p v hp hv
  keepf := fun p hp => by rw [World.frozen?_setCell]; exact h.keepf p hp
  size := by have := h.size; simpa [World.setCell] using this
  bel := fun B w0 h0 hB => (h.bel B w0 h0 hB).setCell hB _

/-- A number that is taken, what is left, and whether it is short. -/
def numOf (s : ByteArray) (b : Bool) (K : Int) : Int × ByteArray × Bool :=
  match takeOf s K with
  | some (n, r) => ((n : Int), r, b)
  | none => (0, s, true)
set_option maxHeartbeats 1000000 in
theorem number_at (G : Nat) (s : ByteArray) (b : Bool) (K : Int) (W : World) (hK : -9223372036854775808 ≤ K ∧ K ≤ 9223372036854775807) (hs : s.size ≤ 140737488355328)
    (c0 : W.cell? ⟨G, 0, none⟩ = some (.string s)) (c1 : W.cell? ⟨G, 1, none⟩ = some (.bool b)) (hf : ∀ i, W.frozen? ⟨G, i, none⟩ = false) :
    Calls Tryd.prog 19 #[.pointer (some ⟨G, 0, none⟩), .int .i64 K] W fun e w' => e = .returned (.int .i64 (numOf s b K).1) ∧ TkPost G W w' (numOf s b K).2.1 (numOf s b K).2.2 := by
  have HT := Lib.hid (fun X => take_any s K X hK hs)
  have HN : Hid (numOf s b K = match takeOf s K with | some (n, r) => ((n : Int), r, b) | none => (0, s, true)) := rfl
  unfold takeVal at HT
  generalize numOf s b K = N at HN ⊢
  generalize takeOf s K = t at HT HN
  cases t with
  | none =>
    cases b
    · go_enter Tryd.func19, Tryd.ntmps19
      go_wp2_with fail
      refine (HT.out _).mono ?_
      rintro x w1 ⟨rfl, hb1⟩
      have P := TkPost.same hb1 c0 c1 hf
      have d0 := P.cell0
      have d1 := P.cell1
      have df := P.froz
      clear c0 c1 hf HT hb1
      have HP := Lib.hid P; clear P
      go_wp2
      go_ret
      exact ⟨by rw [HN.out]; rfl, by rw [HN.out]; exact HP.out.set0.set1⟩
    · go_enter Tryd.func19, Tryd.ntmps19
      go_wp2_with fail
      refine (HT.out _).mono ?_
      rintro x w1 ⟨rfl, hb1⟩
      have P := TkPost.same hb1 c0 c1 hf
      have d0 := P.cell0
      have d1 := P.cell1
      have df := P.froz
      clear c0 c1 hf HT hb1
      have HP := Lib.hid P; clear P
      go_wp2
      go_ret
      exact ⟨by rw [HN.out]; rfl, by rw [HN.out]; exact HP.out.set0.set1⟩
  | some p =>
    obtain ⟨n, r⟩ := p
    cases b
    · go_enter Tryd.func19, Tryd.ntmps19
      go_wp2_with fail
      refine (HT.out _).mono ?_
      rintro x w1 ⟨rfl, hb1⟩
      have P := TkPost.same hb1 c0 c1 hf
      have d0 := P.cell0
      have d1 := P.cell1
      have df := P.froz
      clear c0 c1 hf HT hb1
      have HP := Lib.hid P; clear P
      go_wp2
      go_ret
      exact ⟨by rw [HN.out]; rfl, by rw [HN.out]; exact HP.out.set0.set1⟩
    · go_enter Tryd.func19, Tryd.ntmps19
      go_wp2_with fail
      refine (HT.out _).mono ?_
      rintro x w1 ⟨rfl, hb1⟩
      have P := TkPost.same hb1 c0 c1 hf
      have d0 := P.cell0
      have d1 := P.cell1
      have df := P.froz
      clear c0 c1 hf HT hb1
      have HP := Lib.hid P; clear P
      go_wp2
      go_ret
      exact ⟨by rw [HN.out]; rfl, by rw [HN.out]; exact HP.out.set0.set1⟩

/-- A text that is taken, what is left, and whether it is short. -/
def textOf (s : ByteArray) (b : Bool) (K : Nat) : ByteArray × ByteArray × Bool :=
  if s.size < K then (⟨#[]⟩, s, true) else (s.extract 0 K, s.extract K s.size, b)
set_option maxHeartbeats 1000000 in
theorem text_at (G : Nat) (s : ByteArray) (b : Bool) (K : Nat) (W : World) (_hK : K ≤ 1000) (_hs : s.size ≤ 140737488355328)
    (c0 : W.cell? ⟨G, 0, none⟩ = some (.string s)) (c1 : W.cell? ⟨G, 1, none⟩ = some (.bool b)) (hf : ∀ i, W.frozen? ⟨G, i, none⟩ = false) :
    Calls Tryd.prog 20 #[.pointer (some ⟨G, 0, none⟩), .int .i64 (K : Int)] W fun e w' => e = .returned (.string (textOf s b K).1) ∧ TkPost G W w' (textOf s b K).2.1 (textOf s b K).2.2 := by
  have HP := Lib.hid (TkPost.same (Below.refl _ W) c0 c1 hf)
  by_cases h : s.size < K
  · have HN : Hid (textOf s b K = (⟨#[]⟩, s, true)) := Lib.hid (if_pos h)
    have hlt : (s.size : Int) < (K : Int) := by omega
    generalize textOf s b K = N at HN ⊢
    go_enter Tryd.func20, Tryd.ntmps20
    go_wp2
    go_ret
    exact ⟨by rw [HN.out]; rfl, by rw [HN.out]; exact HP.out.set1⟩
  · have HN : Hid (textOf s b K = (s.extract 0 K, s.extract K s.size, b)) := Lib.hid (if_neg h)
    have hlt : (K : Int) ≤ (s.size : Int) := by omega
    generalize textOf s b K = N at HN ⊢
    go_enter Tryd.func20, Tryd.ntmps20
    go_wp2
    go_ret
    exact ⟨by rw [HN.out]; rfl, by rw [HN.out]; exact HP.out.set0⟩
end Go.Proofs.YtlggbbaigcnpjaaDoor
