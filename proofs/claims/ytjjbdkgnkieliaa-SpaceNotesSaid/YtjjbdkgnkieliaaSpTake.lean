/-
  THE CONTRACTS OF a book's Take and Put, and New.
-/
import Derived.Test.YtjjbdkgnkieliaaSpRead
namespace Go.Proofs.Ytjjbdkgnkieliaa
open Go.RowKit Go.Maps Go.ChangeMaps Go.MapKept Go.WideElems
/-- A slice of ints that reads as these numbers. -/
def IntsAt (w : World) (a : Option Addr) (l : List Int) : Prop :=
  l = [] ∨ ∃ b off, a = some ⟨b, off, none⟩ ∧ ∀ i, i < l.length → w.cell? ⟨b, off + i, none⟩ = some (.int .i64 (l.getD i 0))
def Ints64 (l : List Int) : Prop := ∀ i, i < l.length → (Lit.int .i64 (l.getD i 0)).wf = true
theorem IntsAt.below {w w' : World} {a : Option Addr} {l : List Int} (h : IntsAt w a l) (hb : Below w.heap.size w w') : IntsAt w' a l := by
  rcases h with h | ⟨b, off, e, h⟩
  · exact .inl h
  · exact .inr ⟨b, off, e, fun i hi => by rw [hb.cell (p := ⟨b, off + i, none⟩) (block_lt (h i hi))]; exact h i hi⟩
theorem IntsAt.cell {w : World} {a : Option Addr} {l : List Int} (h : IntsAt w a l) {k : Nat} (hk : k < l.length) : ∃ b off, a = some ⟨b, off, none⟩ ∧ w.cell? ⟨b, off + k, none⟩ = some (.int .i64 (l.getD k 0)) := by
  rcases h with rfl | ⟨b, off, e, h⟩
  · simp at hk
  · exact ⟨b, off, e, h k hk⟩
theorem one_int (w : World) (x : Int) (T : TypeId) : IntsAt (w.alloc (.cells #[.int .i64 x] T)) (some ⟨w.heap.size, 0, none⟩) [x] :=
  .inr ⟨w.heap.size, 0, rfl, fun i hi => by
    match i, hi with
    | 0, _ => simp [World.cell?_alloc_at]⟩
theorem take_one (l : List Int) (k : Nat) (h : k < l.length) : l.take (k + 1) = l.take k ++ [l.getD k 0] := by
  rw [List.take_succ_eq_append_getElem h]; simp [List.getD_eq_getElem?_getD, h]
/-- What is needed, by transaction and page, and by page. -/
abbrev Book := (Int → Int → Int) × (Int → Int)
def noteB (t : Int) (b : Book) (p z : Int) : Book := (upd2 b.1 t p (b.1 t p + z), updI b.2 p (b.2 p + z))
def takeB (t : Int) (b : Book) (l : List Int) : Book := l.foldl (fun b p => noteB t b p 1) b
def putB1 (t : Int) (b : Book) (p : Int) : Book := if b.1 t p > 0 then noteB t b p (-1) else b
def putB (t : Int) (b : Book) (l : List Int) : Book := l.foldl (putB1 t) b
/-- A book somewhere, behind what was left alone. -/
def SpB (W W' : World) (S T A n : Nat) (o : Int → Option Nat) (b : Book) : Prop := ∃ o', SpIn W' S T A n o' b.1 b.2 ∧ SpFr W W' T A o o'
/-- The slice lies in none of the book's blocks. -/
def Apart (a : Option Addr) (T A : Nat) (o : Int → Option Nat) (W : World) : Prop := ∀ x, a = some x → x.block < W.heap.size ∧ x.block ≠ T ∧ x.block ≠ A ∧ ∀ t, o t ≠ some x.block
theorem IntsAt.fr {w w' : World} {a : Option Addr} {l : List Int} {T A : Nat} {o o' : Int → Option Nat} (h : IntsAt w a l) (hf : SpFr w w' T A o o') (hx : l = [] ∨ Apart a T A o w) : IntsAt w' a l := by
  rcases h with h | ⟨b, off, e, h⟩
  · exact .inl h
  rcases hx with hx | hx
  · exact .inl hx
  · obtain ⟨_, h1, h2, h3⟩ := hx _ e
    exact .inr ⟨b, off, e, fun i hi => hf.cell (h i hi) h1 h2 h3⟩
section
variable {W : World} {S T A n : Nat} {o : Int → Option Nat} {b : Book}
set_option maxHeartbeats 2000000 in
theorem take_any (h : SpIn W S T A n o b.1 b.2) (t : Int) (ht : (Lit.int .i64 t).wf = true) (a : Option Addr) (l : List Int) (cap : Nat) (hl : IntsAt W a l) (hw : Ints64 l) (hx : l = [] ∨ Apart a T A o W) (hn : n + 3 * l.length ≤ 100000) :
    Calls Try.prog 17 #[.pointer (some ⟨S, 0, none⟩), .int .i64 t, .slice a l.length cap] W fun e w' => e = .returned (.tuple #[]) ∧ Hid (SpB W w' S T A (n + 3 * l.length) o (takeB t b l)) := by
  have KM := Lib.hid (made_yes h.c0)
  have HI : Hid (SpB W W S T A n o b) := ⟨o, h, SpFr.refl W⟩
  have HL := Lib.hid hl
  have HX := Lib.hid hx
  have HWF := Lib.hid hw
  clear h hl hx hw
  go_enter Try.func17, Try.ntmps17
  go_wp2_with fail
  refine KM.out.mono ?_
  rintro x w1 ⟨rfl, rfl⟩
  clear KM
  go_wp2
  go_loopw [13] (fun i w' => ∃ k : Nat, k ≤ l.length ∧ i = .int .i64 k ∧ Hid (SpB W w' S T A (n + 3 * k) o (takeB t b (l.take k)))) (fun i _ => l.length - (intOf i).toNat)
  case atStart => exact ⟨0, Nat.zero_le _, rfl, HI⟩
  case round =>
    obtain ⟨k, hk, rfl, hs⟩ := hrel
    clear HI
    by_cases hlt : k < l.length
    · obtain ⟨o1, s1, f1⟩ := hs.out
      obtain ⟨bb, off, rfl, hc⟩ := (HL.out.fr f1 HX.out).cell hlt
      have hstep : takeB t b (l.take (k + 1)) = noteB t (takeB t b (l.take k)) (l.getD k 0) 1 := by rw [take_one l k hlt]; unfold takeB; rw [List.foldl_append]; rfl
      have hpw := HWF.out k hlt
      obtain ⟨p, hp⟩ : ∃ p, p = l.getD k 0 := ⟨_, rfl⟩
      rw [← hp] at hc hstep hpw
      have KN := Lib.hid (note_any s1 t p 1 ht hpw (by have := s1.gb t p; omega) (by have := s1.ab p; omega) (by omega) (by omega))
      have HS := Lib.hid hstep
      have HF := Lib.hid f1
      clear hstep hp s1 f1 hs hpw
      go_wp2_with fail
      refine KN.out.mono ?_
      rintro x w2 ⟨rfl, hr⟩
      have hN : Hid (SpB W w2 S T A (n + 3 * (k + 1)) o (takeB t b (l.take (k + 1)))) := by
        obtain ⟨o2, s2, f2⟩ := hr.out
        rw [HS.out]
        exact ⟨o2, s2.mono (by omega), HF.out.trans f2⟩
      clear hr KN HS HF
      go_wp2
      go_round
      case rel => exact ⟨k + 1, by omega, by go_num, hN⟩
      case measure => simp [intOf]; omega
    · have hN : Hid (SpB W wr S T A (n + 3 * l.length) o (takeB t b l)) := by
        have e : k = l.length := by omega
        rw [e, List.take_length] at hs; exact hs
      clear hs
      go_wp2
      exact bodyPost_end (v := .tuple #[]) (by simp [results, Try.results17]) rfl ⟨rfl, hN⟩
end
end Go.Proofs.Ytjjbdkgnkieliaa
