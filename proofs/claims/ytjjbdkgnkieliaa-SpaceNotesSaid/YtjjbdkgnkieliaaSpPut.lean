/-
  THE CONTRACTS OF a book's Put, and New; and of no book.
-/
import Derived.Test.YtjjbdkgnkieliaaSpTake
namespace Go.Proofs.Ytjjbdkgnkieliaa
open Go.RowKit Go.Maps Go.ChangeMaps Go.MapKept Go.WideElems
section
variable {W : World} {S T A n : Nat} {o : Int → Option Nat} {b : Book}
theorem putB1_le {t : Int} (h : ∀ q, b.1 t q ≤ b.2 q) (p : Int) : ∀ q, (putB1 t b p).1 t q ≤ (putB1 t b p).2 q := by
  intro q
  unfold putB1
  split
  · unfold noteB
    simp only [upd2_same]
    unfold updI
    split
    · have := h p; omega
    · exact h q
  · exact h q
theorem putB_le {t : Int} (l : List Int) : ∀ b : Book, (∀ q, b.1 t q ≤ b.2 q) → ∀ q, (putB t b l).1 t q ≤ (putB t b l).2 q := by
  induction l with
  | nil => intro b h; exact h
  | cons p l ih => intro b h; exact ih _ (putB1_le h p)
set_option maxHeartbeats 2000000 in
theorem put_any (h : SpIn W S T A n o b.1 b.2) (t : Int) (ht : (Lit.int .i64 t).wf = true) (hle : ∀ q, b.1 t q ≤ b.2 q) (a : Option Addr) (l : List Int) (cap : Nat) (hl : IntsAt W a l) (hw : Ints64 l) (hx : l = [] ∨ Apart a T A o W) (hn : n + 3 * l.length ≤ 100000) :
    Calls Try.prog 18 #[.pointer (some ⟨S, 0, none⟩), .int .i64 t, .slice a l.length cap] W fun e w' => e = .returned (.tuple #[]) ∧ Hid (SpB W w' S T A (n + 3 * l.length) o (putB t b l)) := by
  have HI : Hid (SpB W W S T A n o b) := ⟨o, h, SpFr.refl W⟩
  have HL := Lib.hid hl
  have HX := Lib.hid hx
  have HWF := Lib.hid hw
  have HLE := Lib.hid hle
  clear h hl hx hw hle
  go_enter Try.func18, Try.ntmps18
  go_wp2
  go_loopw [10] (fun i w' => ∃ k : Nat, k ≤ l.length ∧ i = .int .i64 k ∧ Hid (SpB W w' S T A (n + 3 * k) o (putB t b (l.take k)))) (fun i _ => l.length - (intOf i).toNat)
  case atStart => exact ⟨0, Nat.zero_le _, rfl, HI⟩
  case round =>
    obtain ⟨k, hk, rfl, hs⟩ := hrel
    clear HI
    by_cases hlt : k < l.length
    · obtain ⟨o1, s1, f1⟩ := hs.out
      obtain ⟨bb, off, rfl, hc⟩ := (HL.out.fr f1 HX.out).cell hlt
      have hstep : putB t b (l.take (k + 1)) = putB1 t (putB t b (l.take k)) (l.getD k 0) := by rw [take_one l k hlt]; unfold putB; rw [List.foldl_append]; rfl
      have hle := putB_le (l.take k) b HLE.out
      have hpw := HWF.out k hlt
      obtain ⟨p, hp⟩ : ∃ p, p = l.getD k 0 := ⟨_, rfl⟩
      rw [← hp] at hc hstep hpw
      have KD := Lib.hid (need_any s1 t p ht hpw)
      obtain ⟨y, hy⟩ : ∃ y, y = (putB t b (l.take k)).1 t p := ⟨_, rfl⟩
      rw [← hy] at KD
      have HF := Lib.hid f1
      by_cases hpos : 0 < y
      · have KN := Lib.hid (note_any s1 t p (-1) ht hpw (by omega) (by have := hle p; omega) (by omega) (by omega))
        have hst2 : putB t b (l.take (k + 1)) = noteB t (putB t b (l.take k)) p (-1) := by rw [hstep]; unfold putB1; rw [if_pos (by omega)]
        have HS := Lib.hid hst2
        clear hstep hst2 hp s1 f1 hs hpw hle hy
        go_wp2_with fail
        refine KD.out.mono ?_
        rintro x w2 ⟨rfl, rfl⟩
        go_wp2_with fail
        refine KN.out.mono ?_
        rintro x w2 ⟨rfl, hr⟩
        have hN : Hid (SpB W w2 S T A (n + 3 * (k + 1)) o (putB t b (l.take (k + 1)))) := by
          obtain ⟨o2, s2, f2⟩ := hr.out
          rw [HS.out]
          exact ⟨o2, s2.mono (by omega), HF.out.trans f2⟩
        clear hr KN HS HF KD
        go_wp2
        go_round
        case rel => exact ⟨k + 1, by omega, by go_num, hN⟩
        case measure => simp [intOf]; omega
      · have hN : Hid (SpB W wr S T A (n + 3 * (k + 1)) o (putB t b (l.take (k + 1)))) := by
          rw [hstep]; unfold putB1; rw [if_neg (by omega)]
          exact ⟨o1, s1.mono (by omega), f1⟩
        have hpos' : y ≤ 0 := by omega
        clear hstep hp s1 f1 hs hpw hle hy HF
        go_wp2_with fail
        refine KD.out.mono ?_
        rintro x w2 ⟨rfl, rfl⟩
        clear KD
        go_wp2
        go_round
        case rel => exact ⟨k + 1, by omega, by go_num, hN⟩
        case measure => simp [intOf]; omega
    · have hN : Hid (SpB W wr S T A (n + 3 * l.length) o (putB t b l)) := by
        have e : k = l.length := by omega
        rw [e, List.take_length] at hs; exact hs
      clear hs
      go_wp2
      exact bodyPost_end (v := .tuple #[]) (by simp [results, Try.results18]) rfl ⟨rfl, hN⟩
/-- New. -/
theorem new_any (W : World) : Calls Try.prog 9 #[] W fun e w' => ∃ S T A, e = .returned (.pointer (some ⟨S, 0, none⟩)) ∧ Hid (SpIn w' S T A 0 (fun _ => none) (fun _ _ => 0) (fun _ => 0)) ∧ Hid (Below W.heap.size W w') ∧ W.heap.size ≤ S ∧ W.heap.size ≤ T ∧ W.heap.size ≤ A := by
  have hmm := @run_makeMap Try.prog
  have hb : Below W.heap.size W (((W.alloc (.map #[] 0)).alloc (.map #[] 0)).alloc (.cells #[.map (some W.heap.size), .map (some (W.heap.size + 1))] 57)) :=
    (((Below.refl _ W).alloc (Nat.le_refl _) _).alloc (by simp only [World.size_alloc]; omega) _).alloc (by simp only [World.size_alloc]; omega) _
  have c0 : (((W.alloc (.map #[] 0)).alloc (.map #[] 0)).alloc (.cells #[.map (some W.heap.size), .map (some (W.heap.size + 1))] 57)).cell? ⟨W.heap.size + 2, 0, none⟩ = some (.map (some W.heap.size)) := new_cell (by simp only [World.size_alloc]) rfl
  have c1 : (((W.alloc (.map #[] 0)).alloc (.map #[] 0)).alloc (.cells #[.map (some W.heap.size), .map (some (W.heap.size + 1))] 57)).cell? ⟨W.heap.size + 2, 1, none⟩ = some (.map (some (W.heap.size + 1))) := new_cell (by simp only [World.size_alloc]) rfl
  have t0 : TalAt ((W.alloc (.map #[] 0)).alloc (.map #[] 0)) (W.heap.size + 1) 0 (fun _ => 0) := by
    have h := TalAt.made (W.alloc (.map #[] 0))
    simp only [World.size_alloc] at h; exact h
  have o0 : OutAt (((W.alloc (.map #[] 0)).alloc (.map #[] 0)).alloc (.cells #[.map (some W.heap.size), .map (some (W.heap.size + 1))] 57)) W.heap.size 0 (fun _ => none) :=
    ((OutAt.made W).kept (World.grownBy_alloc _ _ none) (by simp)).kept (World.grownBy_alloc _ _ none) (by simp)
  have hs : SpIn (((W.alloc (.map #[] 0)).alloc (.map #[] 0)).alloc (.cells #[.map (some W.heap.size), .map (some (W.heap.size + 1))] 57)) (W.heap.size + 2) W.heap.size (W.heap.size + 1) 0 (fun _ => none) (fun _ _ => 0) (fun _ => 0) :=
    { c0 := c0, c1 := c1, ot := o0, al := t0.kept (World.grownBy_alloc _ _ none) (by simp), inn := fun _ _ e => (by cases e), non := fun _ _ _ => rfl, gb := fun _ _ => ⟨Int.le_refl _, by omega⟩, ab := fun _ => ⟨Int.le_refl _, by omega⟩, st := by omega, sa := by omega, ta := by omega, tb := fun _ _ e => (by cases e), inj := fun _ _ _ e => (by cases e) }
  have HS := Lib.hid hs
  have HB := Lib.hid hb
  clear hb c0 c1 t0 o0 hs
  go_enter Try.func9, Try.ntmps9
  go_wp2
  go_ret
  exact ⟨_, _, _, rfl, HS, HB, by omega, by omega, by omega⟩
end
/-! ### no book -/
theorem need_nil (W : World) (t p : Int) : Calls Try.prog 13 #[.pointer none, .int .i64 t, .int .i64 p] W fun e w' => e = .returned (.int .i64 0) ∧ W = w' := by
  have KM := Lib.hid (made_no W)
  go_enter Try.func13, Try.ntmps13
  go_wp2_with fail
  refine KM.out.mono ?_
  rintro x w1 ⟨rfl, rfl⟩
  go_wp2
  go_ret
  exact ⟨rfl, rfl⟩
theorem all_nil (W : World) (p : Int) : Calls Try.prog 12 #[.pointer none, .int .i64 p] W fun e w' => e = .returned (.int .i64 0) ∧ W = w' := by
  have KM := Lib.hid (made_no W)
  go_enter Try.func12, Try.ntmps12
  go_wp2_with fail
  refine KM.out.mono ?_
  rintro x w1 ⟨rfl, rfl⟩
  go_wp2
  go_ret
  exact ⟨rfl, rfl⟩
theorem take_nil (W : World) (t : Int) (v : Value) : Calls Try.prog 17 #[.pointer none, .int .i64 t, v] W fun e w' => e = .returned (.tuple #[]) ∧ W = w' := by
  have KM := Lib.hid (made_no W)
  go_enter Try.func17, Try.ntmps17
  go_wp2_with fail
  refine KM.out.mono ?_
  rintro x w1 ⟨rfl, rfl⟩
  go_wp2
  refine bodyPost_ret (results_none rfl _ _ _) rfl ?_
  exact ⟨rfl, rfl⟩
theorem done_nil (W : World) (v : Value) : Calls Try.prog 19 #[.pointer none, v] W fun e w' => e = .returned (.tuple #[]) ∧ W = w' := by
  have KM := Lib.hid (made_no W)
  go_enter Try.func19, Try.ntmps19
  go_wp2_with fail
  refine KM.out.mono ?_
  rintro x w1 ⟨rfl, rfl⟩
  go_wp2
  refine bodyPost_ret (results_none rfl _ _ _) rfl ?_
  exact ⟨rfl, rfl⟩
theorem room_nil (W : World) (t p gs : Int) (ca : Option Addr) (c cc : Nat) : Calls Try.prog 14 #[.pointer none, .int .i64 t, .agg #[.int .i64 p, .int .i64 gs, .slice ca c cc]] W fun e w' => e = .returned (.int .i64 0) ∧ Below W.heap.size W w' := by
  have KM := Lib.hid (made_no (W.alloc (.cells #[.int .i64 p, .int .i64 gs, .slice ca c cc] 36)))
  go_enter Try.func14, Try.ntmps14
  go_wp2_with fail
  refine KM.out.mono ?_
  rintro x w1 ⟨rfl, rfl⟩
  go_wp2
  go_ret
  exact ⟨rfl, (Below.refl _ _).alloc (Nat.le_refl _) _⟩
theorem may_nil (W : World) (t p gs : Int) (ca : Option Addr) (c cc : Nat) : Calls Try.prog 15 #[.pointer none, .int .i64 t, .agg #[.int .i64 p, .int .i64 gs, .slice ca c cc]] W fun e w' => e = .returned (.bool false) ∧ Below W.heap.size W w' := by
  have KM := Lib.hid (made_no (W.alloc (.cells #[.int .i64 p, .int .i64 gs, .slice ca c cc] 36)))
  go_enter Try.func15, Try.ntmps15
  go_wp2_with fail
  refine KM.out.mono ?_
  rintro x w1 ⟨rfl, rfl⟩
  go_wp2
  go_ret
  exact ⟨rfl, (Below.refl _ _).alloc (Nat.le_refl _) _⟩
/-- Put, of no book. -/
theorem put_nil (W : World) (t : Int) (a : Option Addr) (l : List Int) (cap : Nat) (hl : IntsAt W a l) (hn : l.length ≤ 1000) : Calls Try.prog 18 #[.pointer none, .int .i64 t, .slice a l.length cap] W fun e w' => e = .returned (.tuple #[]) ∧ W = w' := by
  have KN := Lib.hid (fun p => need_nil W t p)
  have HL := Lib.hid hl
  clear hl
  go_enter Try.func18, Try.ntmps18
  go_wp2
  go_loopw [10] (fun i w' => ∃ k : Nat, k ≤ l.length ∧ i = .int .i64 k ∧ W = w') (fun i _ => l.length - (intOf i).toNat)
  case atStart => exact ⟨0, Nat.zero_le _, rfl, rfl⟩
  case round =>
    obtain ⟨k, hk, rfl, rfl⟩ := hrel
    by_cases hlt : k < l.length
    · obtain ⟨bb, off, rfl, hc⟩ := HL.out.cell hlt
      obtain ⟨p, hp⟩ : ∃ p, p = l.getD k 0 := ⟨_, rfl⟩
      rw [← hp] at hc
      have KP := Lib.hid (KN.out p)
      clear hp KN
      go_wp2_with fail
      refine KP.out.mono ?_
      rintro x w2 ⟨rfl, rfl⟩
      clear KP
      go_wp2
      go_round
      case rel => exact ⟨k + 1, by omega, by go_num, trivial⟩
      case measure => simp [intOf]; omega
    · go_wp2
      exact bodyPost_end (v := .tuple #[]) (by simp [results, Try.results18]) rfl ⟨rfl, rfl⟩
end Go.Proofs.Ytjjbdkgnkieliaa
