/-
  THE LAW's EXAMPLE: awake of quadrigalaw17.
-/
import Derived.Test.YtophbefmlfieeaaTxGreat
namespace Go.Proofs.Ytophbefmlfieeaa
open Go.RowKit
def tw1 : Rc := ⟨1, 1, 5, 0, 0, ⟨#[]⟩, false, ⟨#[]⟩, false, ⟨#[]⟩, 0⟩
def tw2 : Rc := ⟨2, 2, 5, 1, 0, ⟨#[97]⟩, false, ⟨#[]⟩, true, ⟨#[120]⟩, 0⟩
def tw3 : Rc := ⟨4, 4, 5, 2, 0, ⟨#[]⟩, false, ⟨#[]⟩, false, ⟨#[]⟩, 0⟩
def tw4 : Rc := ⟨2, 5, 5, 4, 0, ⟨#[97]⟩, true, ⟨#[120]⟩, true, ⟨#[121]⟩, 0⟩
def twL : List Rc := [tw1, tw2, tw3, tw4]
theorem tw1_ok : Rc.ok tw1 = true := by kernel_rfl
theorem tw2_ok : Rc.ok tw2 = true := by kernel_rfl
theorem tw3_ok : Rc.ok tw3 = true := by kernel_rfl
theorem tw4_ok : Rc.ok tw4 = true := by kernel_rfl
def Sh : Nat → (Int → Option (Nat × KnD)) → Prop
  | 0, m => m 5 = none
  | 1, m => ∃ K d, m 5 = some (K, d) ∧ d.st = 1 ∧ d.last = 1 ∧ d.cl = [] ∧ d.pl = []
  | 2, m => ∃ K d, m 5 = some (K, d) ∧ d.st = 1 ∧ d.last = 2 ∧ d.cl = [tw2] ∧ d.pl = []
  | 3, m => ∃ K d, m 5 = some (K, d) ∧ d.st = 1 ∧ d.last = 4 ∧ d.cl = [tw2] ∧ d.pl = [(0, 1)]
  | _, m => ∃ K d, m 5 = some (K, d) ∧ d.st = 1 ∧ d.last = 5 ∧ d.cl = [tw2, tw4] ∧ d.pl = [(0, 1)]
/-- What holds behind k of the four records. -/
def AwI (w : World) (B t M q k : Nat) (X : World) : Prop := RcsAt X (some ⟨q, 0, none⟩) twL ∧ Below B w X ∧ q < X.heap.size ∧ ∃ n m, n ≤ 1 ∧ (k = 0 → n = 0) ∧ TbAt X B t M n m ∧ (∀ j, TbOwn M m j → j ≠ q) ∧ Sh k m
theorem rcs_block {X Y : World} {q : Nat} {l : List Rc} (h : RcsAt X (some ⟨q, 0, none⟩) l) (hb : Y.heap[q]? = X.heap[q]?) : RcsAt Y (some ⟨q, 0, none⟩) l := by
  rcases h with h | ⟨b, off, e, hc⟩
  · exact .inl h
  · injection e with e
    injection e with e1 e2
    subst e1 e2
    have k : ∀ {o : Nat} {v : Value}, X.cell? ⟨q, o, none⟩ = some v → Y.cell? ⟨q, o, none⟩ = some v := fun hx => (World.cell?_of_block hb).trans hx
    exact .inr ⟨q, 0, rfl, fun i hi => by
      obtain ⟨c0, c1, c2, c3, c4, c5, c6, c7, c8, c9, c10⟩ := hc i hi
      exact ⟨k c0, k c1, k c2, k c3, k c4, k c5, k c6, k c7, k c8, k c9, k c10⟩⟩
theorem AwI.below {w X Y : World} {B t M q k : Nat} (h : AwI w B t M q k X) (hb : Below X.heap.size X Y) (hB : B ≤ X.heap.size) : AwI w B t M q k Y := by
  obtain ⟨h1, h2, h3, n, m, h4, h5, h6, h7, h8⟩ := h
  exact ⟨h1.below hb, h2.trans (hb.mono hB), Nat.lt_of_lt_of_le h3 hb.size, n, m, h4, h5, h6.below hb, h7, h8⟩
theorem AwI.le {w X : World} {B t M q k : Nat} (h : AwI w B t M q k X) : B ≤ X.heap.size := by
  obtain ⟨_, _, _, n, m, _, _, h6, _⟩ := h
  exact Nat.le_trans h6.lo.1 (Nat.le_of_lt h6.lts.1)
theorem AwI.step {w X Y : World} {B t M q k n' n : Nat} {m m' : Int → Option (Nat × KnD)} (h1 : RcsAt X (some ⟨q, 0, none⟩) twL) (h2 : Below B w X) (h3 : q < X.heap.size) (h6 : TbAt X B t M n m) (h7 : ∀ j, TbOwn M m j → j ≠ q) (hp : TbP X B t M n' m m' Y) (hn : n' ≤ 1) (hs : Sh (k + 1) m') : AwI w B t M q (k + 1) Y := by
  have hB : B ≤ X.heap.size := Nat.le_trans h6.lo.1 (Nat.le_of_lt h6.lts.1)
  refine ⟨rcs_block h1 (hp.2.1.block q h3 (fun c => h7 q c rfl)), h2.trans (hp.2.1.below hB (fun k c => (h6.ownLt c).2)), Nat.lt_of_lt_of_le h3 hp.2.1.size, n', m', hn, fun e => by omega, hp.1, fun j c => ?_, hs⟩
  rcases hp.2.2 j c with c | c
  · exact h7 j c
  · omega
theorem aw_note {w X : World} {B t M q : Nat} (h : AwI w B t M q 0 X) : Calls Try.prog 11 #[.pointer (some ⟨t, 0, none⟩), .int .i64 0, .slice (some ⟨q, 0, none⟩) 4 4] X fun x w' => x = .returned (.int .i64 0) ∧ AwI w B t M q 4 w' := by
  refine (tnote_any (M := M) 0 (some ⟨q, 0, none⟩) twL 4 (AwI w B t M q) (fun _ _ => False) (fun k X Y h hb => h.below hb h.le) (fun k X h => by obtain ⟨_, _, _, n, m, _, _, h6, _⟩ := h; exact h6.ct) (fun k X h => h.1) (fun k X hk h => ?_) h (by decide)).mono ?_
  · obtain ⟨h1, h2, h3, n, m, h4, h5, h6, h7, h8⟩ := h
    match k, hk with
    | 0, _ =>
      have hm : m 5 = none := h8
      refine (tb_begin h6 0 1 1 5 0 0 0 ⟨#[]⟩ ⟨#[]⟩ ⟨#[]⟩ false false tw1_ok (by decide) rfl hm (by unfold maxLen; omega)).mono ?_
      rintro x w' ⟨rfl, K, hp⟩
      have := h5 rfl
      subst this
      exact ⟨0, rfl, fun _ => AwI.step h1 h2 h3 h6 h7 hp (by omega) ⟨K, _, updM_same _ _ _, rfl, rfl, rfl, rfl⟩, fun e => absurd rfl e⟩
    | 1, _ =>
      obtain ⟨K, d, hm, hst, hla, hcl, hpl⟩ := h8
      refine (tb_known h6 0 2 2 5 1 0 0 ⟨#[97]⟩ ⟨#[]⟩ ⟨#[120]⟩ false true tw2_ok (by decide) (by decide) hm 0 (fun X w' => ∃ x, NtP X B K d 0 { d with last := 2, cl := d.cl ++ [tw2] } x w') (fun Z hZ hK => (kn_update hK hst 2 5 1 0 0 ⟨#[97]⟩ ⟨#[]⟩ ⟨#[120]⟩ false true hla.symm (by decide) (by decide) (by decide) (by rw [hcl]; decide)).mono fun x w' hp => ⟨hp.1, x, hp⟩)).mono ?_
      rintro x w' ⟨rfl, Z, hb, hT, y, hN⟩
      obtain ⟨cv, pv, hp⟩ := hT.noted hm hN
      refine ⟨0, rfl, fun _ => AwI.step (h1.below hb) (h2.trans (hb.mono (Nat.le_trans h6.lo.1 (Nat.le_of_lt h6.lts.1)))) (Nat.lt_of_lt_of_le h3 hb.size) hT h7 hp h4 ⟨K, _, updM_same _ _ _, hst, rfl, by simp [hcl], hpl⟩, fun e => absurd rfl e⟩
    | 2, _ =>
      obtain ⟨K, d, hm, hst, hla, hcl, hpl⟩ := h8
      refine (tb_known h6 0 4 4 5 2 0 0 ⟨#[]⟩ ⟨#[]⟩ ⟨#[]⟩ false false tw3_ok (by decide) (by decide) hm 0 (fun X w' => ∃ x, NtP X B K d 0 { d with last := 4, pl := d.pl ++ [(0, (d.cl.length : Int))] } x w') (fun Z hZ hK => (kn_save hK 4 5 2 0 0 ⟨#[]⟩ ⟨#[]⟩ ⟨#[]⟩ false false hst hla.symm (by rw [hcl, hpl]; decide)).mono fun x w' hp => ⟨hp.1, x, hp⟩)).mono ?_
      rintro x w' ⟨rfl, Z, hb, hT, y, hN⟩
      obtain ⟨cv, pv, hp⟩ := hT.noted hm hN
      refine ⟨0, rfl, fun _ => AwI.step (h1.below hb) (h2.trans (hb.mono (Nat.le_trans h6.lo.1 (Nat.le_of_lt h6.lts.1)))) (Nat.lt_of_lt_of_le h3 hb.size) hT h7 hp h4 ⟨K, _, updM_same _ _ _, hst, rfl, hcl, by simp [hcl, hpl]⟩, fun e => absurd rfl e⟩
    | 3, _ =>
      obtain ⟨K, d, hm, hst, hla, hcl, hpl⟩ := h8
      refine (tb_known h6 0 2 5 5 4 0 0 ⟨#[97]⟩ ⟨#[120]⟩ ⟨#[121]⟩ true true tw4_ok (by decide) (by decide) hm 0 (fun X w' => ∃ x, NtP X B K d 0 { d with last := 5, cl := d.cl ++ [tw4] } x w') (fun Z hZ hK => (kn_update hK hst 5 5 4 0 0 ⟨#[97]⟩ ⟨#[120]⟩ ⟨#[121]⟩ true true hla.symm (by decide) (by decide) (by decide) (by rw [hcl]; decide)).mono fun x w' hp => ⟨hp.1, x, hp⟩)).mono ?_
      rintro x w' ⟨rfl, Z, hb, hT, y, hN⟩
      obtain ⟨cv, pv, hp⟩ := hT.noted hm hN
      refine ⟨0, rfl, fun _ => AwI.step (h1.below hb) (h2.trans (hb.mono (Nat.le_trans h6.lo.1 (Nat.le_of_lt h6.lts.1)))) (Nat.lt_of_lt_of_le h3 hb.size) hT h7 hp h4 ⟨K, _, updM_same _ _ _, hst, rfl, by simp [hcl], hpl⟩, fun e => absurd rfl e⟩
    | k + 4, hk => exact absurd hk (by simp [twL])
  · rintro x w' ⟨e, rfl, he, hne⟩
    by_cases h0 : e = 0
    · subst h0
      exact ⟨rfl, he rfl⟩
    · exact (hne h0).elim
end Go.Proofs.Ytophbefmlfieeaa
