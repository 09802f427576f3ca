/-
  THE CONTRACTS OF space.Place AND THE LAW's page.
-/
import Derived.Test.YtjjbdkgnkieliaaSpPut
import Derived.Laws.OwnMore
import Derived.Laws.AppendOwn
import Derived.Deep.Cut
import Derived.Deep.CutBlock
import Derived.Deep.CutRange
import Derived.Deep.DeepCutAuto
namespace Go.Proofs.Ytjjbdkgnkieliaa
open Go.RowKit
theorem wrapU64 (n : Nat) (h : n < 18446744073709551616) : IntKind.u64.wrap (n : Int) = n := by
  unfold IntKind.wrap
  simp [IntKind.bits, IntKind.signed]
  omega
def byteAt (key : ByteArray) (k : Nat) : Nat := if h : k < key.size then (key[k]'h).toNat else 0
theorem byteAt_lt (key : ByteArray) (k : Nat) : byteAt key k < 256 := by
  unfold byteAt; split
  · exact UInt8.toNat_lt _
  · omega
/-- A key's page, of the key's first k bytes. -/
def placeN (key : ByteArray) (m : Nat) : Nat → Nat
  | 0 => 0
  | k + 1 => (placeN key m k + byteAt key k * (k + 1)) % m
theorem placeN_lt (key : ByteArray) (m : Nat) (hm : 0 < m) : ∀ k, placeN key m k < m
  | 0 => hm
  | _ + 1 => Nat.mod_lt _ hm
set_option maxHeartbeats 1000000 in
theorem place_any (key : ByteArray) (m : Nat) (h1 : 0 < m) (h2 : m ≤ 1099511627776) (hk : key.size ≤ 100) (W : World) : Calls Try.prog 16 #[.string key, .int .i64 (m : Int)] W fun e w' => e = .returned (.int .i64 (placeN key m key.size : Nat)) ∧ W = w' := by
  have g1 : 1 ≤ (m : Int) := by omega
  have hml : IntKind.u64.wrap (m : Int) = (m : Int) := wrapU64 m (by omega)
  go_enter Try.func16, Try.ntmps16
  go_wp2
  go_loopw [5, 11] (fun s i w' => W = w' ∧ ∃ k : Nat, k ≤ key.size ∧ i = .int .i64 k ∧ s = .int .u64 (placeN key m k : Nat)) (fun _ i _ => key.size - (intOf i).toNat)
  case atStart => exact ⟨rfl, 0, Nat.zero_le _, rfl, rfl⟩
  case round =>
    obtain ⟨rfl, k, hk', rfl, rfl⟩ := hrel
    by_cases hlt : k < key.size
    · have hp := placeN_lt key m h1 k
      have hst : placeN key m (k + 1) = (placeN key m k + byteAt key k * (k + 1)) % m := rfl
      obtain ⟨q, hq⟩ : ∃ q, q = placeN key m k := ⟨_, rfl⟩
      rw [← hq] at hp hst ⊢
      have hx : byteAt key k = (key[k]'hlt).toNat := by unfold byteAt; rw [dif_pos hlt]
      obtain ⟨x, hxx⟩ : ∃ x, ∀ h, (key[k]'h).toNat = x := ⟨(key[k]'hlt).toNat, fun _ => rfl⟩
      have hx8 := byteAt_lt key k
      rw [hx, hxx] at hst hx8
      have hprod : x * (k + 1) ≤ 255 * 100 := Nat.mul_le_mul (by omega) (by omega)
      have w1 : IntKind.u64.wrap (x : Int) = (x : Int) := wrapU64 x (by omega)
      have w2 : IntKind.u64.wrap ((k : Int) + 1) = (k : Int) + 1 := wrapU64 (k + 1) (by omega)
      have w3 : IntKind.u64.wrap ((x : Int) * ((k : Int) + 1)) = (x : Int) * ((k : Int) + 1) := by
        have := wrapU64 (x * (k + 1)) (by omega)
        simpa using this
      have w4 : IntKind.u64.wrap ((q : Int) + (x : Int) * ((k : Int) + 1)) = (q : Int) + (x : Int) * ((k : Int) + 1) := by
        have := wrapU64 (q + x * (k + 1)) (by omega)
        simpa using this
      have HS := Lib.hid hst
      clear hst hx hprod hq
      go_wp2
      go_round
      case rel =>
        refine ⟨trivial, k + 1, by omega, by go_num, ?_⟩
        rw [HS.out, show (q : Int) + (x : Int) * ((k : Int) + 1) = ((q + x * (k + 1) : Nat) : Int) by simp, ← Int.ofNat_tmod]
      case measure => simp [intOf]; omega
    · have e : k = key.size := by omega
      subst e
      have hp := placeN_lt key m h1 key.size
      have hw : IntKind.i64.wrap ((placeN key m key.size : Nat) : Int) = (placeN key m key.size : Nat) := IntWalk.i64_in _ (by omega)
      go_wp2
      go_ret
      exact ⟨rfl, rfl⟩
theorem place_no (key : ByteArray) (m : Int) (h : m < 1) (W : World) : Calls Try.prog 16 #[.string key, .int .i64 m] W fun e w' => e = .returned (.int .i64 0) ∧ W = w' := by
  go_enter Try.func16, Try.ntmps16
  go_wp2
  go_ret
  exact ⟨rfl, rfl⟩
theorem place_ab (W : World) : Calls Try.prog 16 #[.string ⟨#[97, 98]⟩, .int .i64 7] W fun e w' => e = .returned (.int .i64 6) ∧ W = w' :=
  place_any ⟨#[97, 98]⟩ 7 (by decide) (by decide) (by decide) W
/-! ### the law's page -/
theorem infoCell : (Try.prog.info? 60).map (fun i => (i.zero, i.size, i.bytes)) = some (some (.agg #[.string ⟨#[]⟩, .string ⟨#[]⟩]), 2, 32) := by kernel_rfl
theorem info_partsCell : ∃ i, Try.prog.info? 60 = some i ∧ i.zero = some (.agg #[.string ⟨#[]⟩, .string ⟨#[]⟩]) ∧ i.size = 2 ∧ i.bytes = 32 := by
  obtain ⟨i, hi, hzz⟩ := Option.map_eq_some_iff.1 infoCell
  simp only [Prod.mk.injEq] at hzz
  exact ⟨i, hi, hzz.1, hzz.2.1, hzz.2.2⟩
/-- The state of page's loop. -/
structure PageS (W w : World) (no : Int) (v : Value) (k : Nat) (xs : List Value) : Prop where
  r0 : w.cell? ⟨W.heap.size, 0, none⟩ = some (.int .i64 0)
  r1 : w.cell? ⟨W.heap.size, 1, none⟩ = some (.int .i64 0)
  r2 : w.cell? ⟨W.heap.size, 2, none⟩ = some (.slice none 0 0)
  rf : ∀ i, w.frozen? ⟨W.heap.size, i, none⟩ = false
  p0 : w.cell? ⟨W.heap.size + 1, 0, none⟩ = some (.int .i64 no)
  p1 : w.cell? ⟨W.heap.size + 1, 1, none⟩ = some (.int .i64 0)
  p2 : w.cell? ⟨W.heap.size + 1, 2, none⟩ = some v
  pf : ∀ i, w.frozen? ⟨W.heap.size + 1, i, none⟩ = false
  row : w.ownsRow (W.heap.size + 2) 60 2 v k xs
  bel : Below W.heap.size W w
  size : W.heap.size + 2 ≤ w.heap.size
theorem below_grown {w w' : World} {row : Option Nat} (hg : w.grownBy w' row) {B : Nat} (hr : ∀ k, row = some k → B ≤ k) (hB : B ≤ w.heap.size) : Below B w w' :=
  ⟨hg.os, hg.tape, hg.output, hg.size, fun k hk => hg.block k (by omega) (fun e => by have := hr k e.symm; omega)⟩
theorem PageS.step {W w w' : World} {no : Int} {v v' : Value} {k k' : Nat} {xs xs' : List Value} (h : PageS W w no v k xs) (hb : Below (W.heap.size + 2) w w') (hr : w'.ownsRow (W.heap.size + 2) 60 2 v' k' xs') : PageS W (w'.setCell ⟨W.heap.size + 1, 2, none⟩ v') no v' k' xs' := by
  have lt1 := block_lt h.r0
  have lt2 := block_lt h.p0
  have key : ∀ {p : Addr} {u : Value}, p.block < W.heap.size + 2 → w.cell? p = some u → w'.cell? p = some u := fun hp hc => (hb.cell hp).trans hc
  have kf : ∀ {p : Addr}, p.block < W.heap.size + 2 → w.frozen? p = false → w'.frozen? p = false := fun hp hc => (hb.frozen hp).trans hc
  have ne : ∀ (i j : Nat), i ≠ 2 ∨ j ≠ W.heap.size + 1 → (⟨W.heap.size + 1, 2, none⟩ : Addr) ≠ ⟨j, i, none⟩ := fun i j hij e => by
    injection e with e1 e2
    rcases hij with h | h
    · exact h e2.symm
    · exact h e1.symm
  exact {
    r0 := by rw [World.cell?_setCell_other _ _ _ _ (ne 0 _ (.inl (by decide)))]; exact key (by show W.heap.size < _; omega) h.r0
    r1 := by rw [World.cell?_setCell_other _ _ _ _ (ne 1 _ (.inl (by decide)))]; exact key (by show W.heap.size < _; omega) h.r1
    r2 := by rw [World.cell?_setCell_other _ _ _ _ (ne 2 _ (.inr (by omega)))]; exact key (by show W.heap.size < _; omega) h.r2
    rf := fun i => by rw [World.frozen?_setCell]; exact kf (by show W.heap.size < _; omega) (h.rf i)
    p0 := by rw [World.cell?_setCell_other _ _ _ _ (ne 0 _ (.inl (by decide)))]; exact key (by show W.heap.size + 1 < _; omega) h.p0
    p1 := by rw [World.cell?_setCell_other _ _ _ _ (ne 1 _ (.inl (by decide)))]; exact key (by show W.heap.size + 1 < _; omega) h.p1
    p2 := World.cell?_setCell_same _ _ _ (key (by show W.heap.size + 1 < _; omega) h.p2)
    pf := fun i => by rw [World.frozen?_setCell]; exact kf (by show W.heap.size + 1 < _; omega) (h.pf i)
    row := ownsRow_setCell_below hr (by show W.heap.size + 1 < _; omega) _
    bel := (h.bel.trans (hb.mono (by omega))).setCell (by show W.heap.size ≤ W.heap.size + 1; omega) _
    size := by
      have := hb.size
      have := h.size
      simp only [World.setCell, Array.size_modify]
      omega }
theorem set3p {W w : World} {R B : Nat} {u0 u1 u2 v0 v1 v2 : Value} (hb : Below B w W) (hB : B ≤ R) (c0 : W.cell? ⟨R, 0, none⟩ = some u0) (c1 : W.cell? ⟨R, 1, none⟩ = some u1) (c2 : W.cell? ⟨R, 2, none⟩ = some u2) :
    ∃ X, X = ((W.setCell ⟨R, 0, none⟩ v0).setCell ⟨R, 1, none⟩ v1).setCell ⟨R, 2, none⟩ v2 ∧ X.cell? ⟨R, 0, none⟩ = some v0 ∧ X.cell? ⟨R, 1, none⟩ = some v1 ∧ X.cell? ⟨R, 2, none⟩ = some v2 ∧ Below B w X := by
  have n : ∀ {i j : Nat}, i ≠ j → (⟨R, i, none⟩ : Addr) ≠ ⟨R, j, none⟩ := fun h e => by injection e with _ e; exact h e
  refine ⟨_, rfl, ?_, ?_, ?_, ((hb.setCell hB _).setCell hB _).setCell hB _⟩
  · rw [World.cell?_setCell_other _ _ _ _ (n (by decide)), World.cell?_setCell_other _ _ _ _ (n (by decide))]; exact World.cell?_setCell_same _ _ _ c0
  · rw [World.cell?_setCell_other _ _ _ _ (n (by decide))]
    refine World.cell?_setCell_same _ _ _ (u := u1) ?_
    rw [World.cell?_setCell_other _ _ _ _ (n (by decide))]; exact c1
  · refine World.cell?_setCell_same _ _ _ (u := u2) ?_
    rw [World.cell?_setCell_other _ _ _ _ (n (by decide)), World.cell?_setCell_other _ _ _ _ (n (by decide))]; exact c2
set_option maxHeartbeats 4000000 in
theorem page_any (no : Int) (n : Nat) (hn : n ≤ 10) (W : World) : Calls Try.prog 11 #[.int .i64 no, .int .i64 (n : Int)] W fun e w' => ∃ ca cc, e = .returned (.agg #[.int .i64 no, .int .i64 0, .slice ca n cc]) ∧ Below W.heap.size W w' := by
  obtain ⟨i0, hi, hz0, hz1, hz2⟩ := info_partsCell
  have HI := Lib.hid hi
  have HZ0 := Lib.hid hz0
  have HZ1 := Lib.hid hz1
  have HZ2 := Lib.hid hz2
  clear hi hz0 hz1 hz2
  have S0 : Hid (PageS W ((W.alloc (.cells #[.int .i64 0, .int .i64 0, .slice none 0 0] 36)).alloc (.cells #[.int .i64 no, .int .i64 0, .slice none 0 0] 36)) no (.slice none 0 0) 0 []) := by
    have b1 : Below W.heap.size W (W.alloc (.cells #[.int .i64 0, .int .i64 0, .slice none 0 0] 36)) := (Below.refl _ _).alloc (Nat.le_refl _) _
    have k1 : ∀ {i : Nat} {u : Value}, (W.alloc (.cells #[.int .i64 0, .int .i64 0, .slice none 0 0] 36)).cell? ⟨W.heap.size, i, none⟩ = some u → ((W.alloc (.cells #[.int .i64 0, .int .i64 0, .slice none 0 0] 36)).alloc (.cells #[.int .i64 no, .int .i64 0, .slice none 0 0] 36)).cell? ⟨W.heap.size, i, none⟩ = some u := fun {i u} h =>
      ((Below.refl _ _).alloc (Nat.le_refl _) _).cell (p := ⟨W.heap.size, i, none⟩) (block_lt h) |>.trans h
    exact {
      r0 := k1 (new_cell rfl rfl)
      r1 := k1 (new_cell rfl rfl)
      r2 := k1 (new_cell rfl rfl)
      rf := fun i => by
        rw [World.frozen?_alloc_past _ _ _ (by simp only [World.size_alloc]; omega)]
        exact World.frozen?_alloc_at _ _ _ _ rfl
      p0 := new_cell (by simp only [World.size_alloc]) rfl
      p1 := new_cell (by simp only [World.size_alloc]) rfl
      p2 := new_cell (by simp only [World.size_alloc]) rfl
      pf := fun i => World.frozen?_alloc_at _ _ _ _ (by simp only [World.size_alloc])
      row := ⟨rfl, .inl ⟨rfl, rfl⟩⟩
      bel := b1.alloc (by simp only [World.size_alloc]; omega) _
      size := by simp only [World.size_alloc]; omega }
  go_enter Try.func11, Try.ntmps11
  go_wp2
  go_loopw [6] (fun i w' => ∃ (k : Nat) (v : Value) (xs : List Value), k ≤ n ∧ i = .int .i64 k ∧ Hid (PageS W w' no v k xs)) (fun i _ => n - (intOf i).toNat)
  case atStart => exact ⟨0, _, _, Nat.zero_le _, rfl, S0⟩
  case round =>
    obtain ⟨k, v, xs, hk, rfl, hs⟩ := hrel
    clear S0
    by_cases hlt : k < n
    · have p2 := hs.out.p2
      have pf := hs.out.pf
      have hm : ((k : Int)).tmod 26 = (k : Int) := by
        rw [Int.tmod_eq_emod_of_nonneg (by omega)]; omega
      have hu : IntKind.u8.wrap (97 + (k : Int)) = 97 + (k : Int) := by
        unfold IntKind.wrap
        simp [IntKind.bits, IntKind.signed]
        omega
      have r1 : (convert 46 9 (.slice (some ⟨wr.heap.size, 0, none⟩) 1 1)).run Try.prog (wr.alloc (.cells #[.int .u8 (97 + (k : Int))] 5)) = .ok (.string ⟨#[UInt8.ofNat (97 + k)]⟩) (wr.alloc (.cells #[.int .u8 (97 + (k : Int))] 5)) :=
        run_convert_bytes_back (wr.alloc (.cells #[.int .u8 (97 + (k : Int))] 5)) 46 9 5 ⟨wr.heap.size, 0, none⟩ 1 [UInt8.ofNat (97 + k)] Try.underlying46 Try.underlying5 Try.underlying9 (fun j hj => by
          have h0 : j = 0 := by simp at hj; exact hj
          subst h0
          simp [Addr.add, World.cell?_alloc_at]; omega)
      have hown := hs.out.row
      have hsz := hs.out.size
      have hi := HI.out
      have hz0 := HZ0.out
      have hz1 := HZ1.out
      have hz2 := HZ2.out
      generalize UInt8.ofNat (97 + k) = bb at r1
      go_wp2_with (first
        | (at_builtin; refine wpList_append_own _ rfl _ _ 34 rfl (W.heap.size + 2) 60 i0 (.agg #[.string ⟨#[]⟩, .string ⟨#[]⟩]) 2 32 Try.underlying34 hi hz0 hz1 hz2 rfl (by decide) _ _ _ rfl ((hown.alloc _).alloc _) ⟨wr.heap.size + 1, 0, none⟩ 1 1 [.string ⟨#[bb]⟩, .string ⟨#[]⟩] rfl rfl ?c1 ?c2 ?c3 ?c4 ?c5 ?_)
        | fail)
      case c1 =>
        intro j u hj
        match j, hj with
        | 0, hj => simp at hj; subst hj; exact new_cell (by simp only [World.size_alloc]) rfl
        | 1, hj => simp at hj; subst hj; exact new_cell (by simp only [World.size_alloc]) rfl
      case c2 => intro u hu; simp at hu; rcases hu with rfl | rfl <;> rfl
      case c3 => unfold maxLen; omega
      case c4 => omega
      case c5 => simp only [World.size_alloc]; omega
      · intro v' w1 hown' hgrow _
        have hlo := hown.lt
        obtain ⟨g', cap', hv⟩ : ∃ g' cap', v' = .slice (some ⟨g', 0, none⟩) (k + 1) cap' := by
          rcases hown'.2 with ⟨_, h0⟩ | ⟨g, c, cur, e, _⟩
          · omega
          · exact ⟨g, c, e⟩
        subst hv
        have hb : Below (W.heap.size + 2) wr w1 := by
          have b1 := ((Below.refl (W.heap.size + 2) wr).alloc hsz (.cells #[.int .u8 (97 + (k : Int))] 5)).alloc (by simp only [World.size_alloc]; omega) (.cells #[.string ⟨#[bb]⟩, .string ⟨#[]⟩] 60)
          exact b1.trans ((below_grown hgrow (fun q hq => (hlo q hq).1) (by simp only [World.size_alloc]; omega)))
        have hN : Hid (PageS W (w1.setCell ⟨W.heap.size + 1, 2, none⟩ (.slice (some ⟨g', 0, none⟩) (k + 1) cap')) no (.slice (some ⟨g', 0, none⟩) (k + 1) cap') (k + 1) (xs ++ [.string ⟨#[bb]⟩, .string ⟨#[]⟩])) := hs.out.step hb hown'
        have lt2 := block_lt hs.out.p0
        have p2' : w1.cell? ⟨W.heap.size + 1, 2, none⟩ = some v := (hb.cell (p := ⟨W.heap.size + 1, 2, none⟩) (by show W.heap.size + 1 < _; omega)).trans p2
        have pf' : w1.frozen? ⟨W.heap.size + 1, 2, none⟩ = false := (hb.frozen (p := ⟨W.heap.size + 1, 2, none⟩) (by show W.heap.size + 1 < _; omega)).trans (pf 2)
        clear hb hown' hgrow hown hlo hs p2 pf r1
        go_wp2
        go_round
        case rel => exact ⟨k + 1, _, _, by omega, by go_num, hN⟩
        case measure => simp [intOf]; omega
    · have e : k = n := by omega
      subst e
      obtain ⟨r0, r1, r2, rf, p0, p1, p2, pf, row, bel, size⟩ := hs.out
      obtain ⟨ca, cc, rfl⟩ : ∃ ca cc, v = .slice ca k cc := by
        rcases row.2 with ⟨rfl, rfl⟩ | ⟨g, c, cur, rfl, _⟩
        · exact ⟨none, 0, rfl⟩
        · exact ⟨_, _, rfl⟩
      have HB := Lib.hid bel
      clear hs row bel
      go_wp2
      obtain ⟨X, hX, x0, x1, x2, hbX⟩ := set3p (v0 := .int .i64 no) (v1 := .int .i64 0) (v2 := .slice ca k cc) HB.out (Nat.le_refl _) r0 r1 r2
      rw [← hX]
      refine bodyPost_ret (v := .agg #[.int .i64 no, .int .i64 0, .slice ca k cc]) ?_ rfl ⟨ca, cc, rfl, hbX⟩
      simp [results, Try.results11, go_sem, x0, x1, x2]
end Go.Proofs.Ytjjbdkgnkieliaa
