/-
  A KEY's LOCK: the first waiter, the ends of a queue, whether a claim goes together with all holders.
-/
import Derived.Test.YtgabdlnbencglaaLkLock
import Derived.Shelf.Abstract
namespace Go.Proofs.Ytgabdlnbencglaa
open Go.RowKit
theorem new_cell {W : World} {cs : Array Value} {T : TypeId} {g i : Nat} {v : Value} (hg : g = W.heap.size) (hv : cs[i]? = some v) : (W.alloc (.cells cs T)).cell? ⟨g, i, none⟩ = some v := by
  rw [World.cell?_alloc_at _ _ _ _ hg]; exact hv
/-- A slice that reads as these pointers. -/
def PRow (W : World) (a : Option Addr) (xs : List Nat) : Prop := xs = [] ∨ ∃ b off, a = some ⟨b, off, none⟩ ∧ ∀ i, i < xs.length → W.cell? ⟨b, off + i, none⟩ = some (.pointer (some ⟨xs.getD i 0, 0, none⟩))
theorem PRow.below {W X : World} {a : Option Addr} {xs : List Nat} (h : PRow W a xs) (hb : Below W.heap.size W X) : PRow X a xs := by
  rcases h with h | ⟨b, off, e, h⟩
  · exact .inl h
  · exact .inr ⟨b, off, e, fun i hi => keep_cell hb (h i hi)⟩
/-- The first one and the last one. -/
def endsL (q : List Nat) : List Nat := match q.head?, q.getLast? with
  | some f, some l => [f, l]
  | _, _ => []
theorem endsL_mem {q : List Nat} {x : Nat} (h : x ∈ endsL q) : x ∈ q := by
  unfold endsL at h
  split at h
  · rename_i f l h1 h2
    rcases List.mem_cons.1 h with e | e
    · rw [e]; exact List.mem_of_head? h1
    · rw [List.mem_singleton.1 e]; exact List.mem_of_getLast? h2
  · cases h
section
variable {W X : World} {K off w : Nat} {q r : List Nat} {x : Wc}
set_option maxRecDepth 100000 in
theorem ends_any (h : QAt W K off q) : Calls Try.prog 55 #[.pointer (some ⟨K, off, none⟩)] W fun e W' => ∃ a c, e = .returned (.slice a (endsL q).length c) ∧ PRow W' a (endsL q) ∧ Below W.heap.size W W' := by
  have hf := h.f
  have hl := h.l
  cases e1 : q.head? with
  | none =>
    have e : endsL q = [] := by unfold endsL; rw [e1]
    rw [e1] at hf
    simp only [pV] at hf
    rw [e]
    have HB : Hid (Below W.heap.size W W) := Below.refl _ _
    clear h hl e1 e
    go_enter Try.func55, Try.ntmps55
    go_wp2
    go_ret
    exact ⟨none, 0, rfl, .inl rfl, HB.out⟩
  | some f =>
    cases e2 : q.getLast? with
    | none =>
      rw [List.getLast?_eq_none_iff.1 e2] at e1
      cases e1
    | some l =>
      have e : endsL q = [f, l] := by unfold endsL; rw [e1, e2]
      rw [e1] at hf
      rw [e2] at hl
      simp only [pV] at hf hl
      rw [e]
      have HB : Hid (Below W.heap.size W (W.drew.alloc (.cells #[.pointer (some ⟨f, 0, none⟩), .pointer (some ⟨l, 0, none⟩)] 72))) := (Below.refl _ _).drew.alloc (Nat.le_refl _) _
      have HR : Hid (PRow (W.drew.alloc (.cells #[.pointer (some ⟨f, 0, none⟩), .pointer (some ⟨l, 0, none⟩)] 72)) (some ⟨W.heap.size, 0, none⟩) [f, l]) := .inr ⟨W.heap.size, 0, rfl, fun i hi => by
        match i, hi with
        | 0, _ => exact new_cell rfl rfl
        | 1, _ => exact new_cell rfl rfl⟩
      clear h e1 e2 e
      go_enter Try.func55, Try.ntmps55
      go_wp2_with fail
      go_still_tail 8, (by kernel_rfl)
      go_wp2
      go_ret
      exact ⟨_, _, rfl, HR.out, HB.out⟩
set_option maxRecDepth 100000 in
theorem first_any {o : List Nat} (hr : QAt W K 2 r) (ho : QAt W K 4 o) : Calls Try.prog 30 #[.pointer (some ⟨K, 0, none⟩)] W fun e W' => e = .returned (pV (r ++ o).head?) ∧ W = W' := by
  have h1 := hr.f
  have h2 := ho.f
  cases e1 : r.head? with
  | none =>
    have e : r = [] := by cases r with
      | nil => rfl
      | cons _ _ => cases e1
    subst e
    rw [List.nil_append]
    simp only [List.head?_nil, pV] at h1
    clear hr ho e1
    generalize pV o.head? = v at *
    go_enter Try.func30, Try.ntmps30
    go_wp2
    go_ret
    exact ⟨rfl, rfl⟩
  | some f =>
    have e : (r ++ o).head? = some f := by cases r with
      | nil => cases e1
      | cons _ _ => exact e1
    rw [e]
    rw [e1] at h1
    simp only [pV] at h1 ⊢
    clear hr ho h2 e1 e
    go_enter Try.func30, Try.ntmps30
    go_wp2
    go_ret
    exact ⟨rfl, rfl⟩
/-- The first place at which p holds; -1: there is none. -/
def idxL (p : Nat → Bool) : Nat → List Nat → Int
  | _, [] => -1
  | k, x :: l => if p x then (k : Int) else idxL p (k + 1) l
set_option maxRecDepth 100000 in
theorem index_any (cf : FuncId) (pre : Array Value) (p : Nat → Bool) (a : Option Addr) (xs : List Nat) (c : Nat) (W : World) (hl : xs.length ≤ 100000) (ha : PRow W a xs) (eg : ∀ args w, (callFunc cf args).run Try.prog w = .ok (.enter cf args) w)
    (hcall : ∀ W' x, Below W.heap.size W W' → x ∈ xs → Calls Try.prog cf (pre ++ #[.pointer (some ⟨x, 0, none⟩)]) W' fun e w' => e = .returned (.bool (p x)) ∧ Below W'.heap.size W' w') :
    Calls Try.prog 64 #[.slice a xs.length c, .func (.func cf) pre #[]] W fun e w' => e = .returned (.int .i64 (idxL p 0 xs)) ∧ Below W.heap.size W w' := by
  obtain ⟨O, hO⟩ : ∃ O, idxL p 0 xs = O := ⟨_, rfl⟩
  rw [hO]
  have HO : Hid (idxL p 0 (xs.drop 0) = O) := hO
  have HA := Lib.hid ha
  have HC := Lib.hid hcall
  have HB : Hid (Below W.heap.size W W) := Below.refl _ _
  clear hO ha hcall
  go_enter Try.func64, Try.ntmps64
  go_wp2
  go_loopw [8] (fun i wr => ∃ j : Nat, j ≤ xs.length ∧ i = .int .i64 j ∧ Hid (idxL p j (xs.drop j) = O) ∧ Hid (Below W.heap.size W wr)) (fun i _ => xs.length - (intOf i).toNat)
  case atStart => exact ⟨0, Nat.zero_le _, rfl, HO, HB⟩
  case round =>
    obtain ⟨j, hj, rfl, HE, HW⟩ := hrel
    rename World => wr
    clear HO HB
    by_cases hlt : j < xs.length
    · have hlt' : (j : Int) < (xs.length : Int) := by omega
      have hj0 : (0 : Int) ≤ (j : Int) := by omega
      rcases HA.out.below HW.out with hnil | ⟨b, off, rfl, hcs⟩
      · rw [hnil] at hlt; exact absurd hlt (Nat.not_lt_zero _)
      have hc := hcs j hlt
      obtain ⟨x, hx⟩ : ∃ x, x = xs.getD j 0 := ⟨_, rfl⟩
      have hmem : x ∈ xs := by rw [hx, List.getD_eq_getElem?_getD, List.getElem?_eq_getElem hlt]; exact List.getElem_mem hlt
      have hd : xs.drop j = x :: xs.drop (j + 1) := by rw [List.drop_eq_getElem_cons hlt, hx, List.getD_eq_getElem?_getD, List.getElem?_eq_getElem hlt]; rfl
      have hE := HE.out
      rw [hd] at hE
      rw [← hx] at hc
      have KC := Lib.hid (HC.out wr x HW.out hmem)
      clear hcs hd hx
      unfold idxL at hE
      cases hp : p x with
      | true =>
        rw [hp, if_pos rfl] at hE
        rw [hp] at KC
        subst hE
        clear HE
        go_wp2_with fail
        refine KC.out.mono ?_
        rintro e w2 ⟨rfl, hb⟩
        have HB2 := Lib.hid (HW.out.trans (hb.mono HW.out.size))
        clear hb
        go_wp2
        go_ret
        exact ⟨rfl, HB2.out⟩
      | false =>
        rw [hp, if_neg (by simp)] at hE
        rw [hp] at KC
        have HE2 := Lib.hid hE
        clear hE HE
        go_wp2_with fail
        refine KC.out.mono ?_
        rintro e w2 ⟨rfl, hb⟩
        have HB2 := Lib.hid (HW.out.trans (hb.mono HW.out.size))
        clear hb
        go_wp2
        go_roundw
        case rel => exact ⟨j + 1, by omega, by go_num, HE2, HB2⟩
        case measure => simp [intOf]; omega
    · obtain rfl : j = xs.length := by omega
      have hE := HE.out
      rw [List.drop_length] at hE
      unfold idxL at hE
      subst hE
      clear HE
      go_wp2
      go_ret
      exact ⟨rfl, HW.out⟩
theorem idxL_ge (p : Nat → Bool) : ∀ (k : Nat) (l : List Nat), decide (0 ≤ idxL p k l) = l.any p
  | _, [] => rfl
  | k, x :: l => by
    unfold idxL
    rw [List.any_cons]
    cases hp : p x with
    | true => rw [if_pos rfl, Bool.true_or]; exact decide_eq_true (Int.natCast_nonneg k)
    | false => rw [if_neg (by simp), Bool.false_or]; exact idxL_ge p (k + 1) l
set_option maxRecDepth 100000 in
theorem contains_any (cf : FuncId) (pre : Array Value) (p : Nat → Bool) (a : Option Addr) (xs : List Nat) (c : Nat) (W : World) (hl : xs.length ≤ 100000) (ha : PRow W a xs) (eg : ∀ args w, (callFunc cf args).run Try.prog w = .ok (.enter cf args) w)
    (hcall : ∀ W' x, Below W.heap.size W W' → x ∈ xs → Calls Try.prog cf (pre ++ #[.pointer (some ⟨x, 0, none⟩)]) W' fun e w' => e = .returned (.bool (p x)) ∧ Below W'.heap.size W' w') :
    Calls Try.prog 54 #[.slice a xs.length c, .func (.func cf) pre #[]] W fun e w' => e = .returned (.bool (xs.any p)) ∧ Below W.heap.size W w' := by
  have KI := Lib.hid (index_any cf pre p a xs c W hl ha eg hcall)
  have hg := idxL_ge p 0 xs
  generalize idxL p 0 xs = z at KI hg
  have HG := Lib.hid hg
  clear ha hcall hg
  go_enter Try.func54, Try.ntmps54
  go_wp2_with fail
  refine KI.out.mono ?_
  rintro e w1 ⟨rfl, hb⟩
  have HB := Lib.hid hb
  clear hb KI
  go_wp2
  go_ret
  exact ⟨by rw [← HG.out]; rfl, HB.out⟩
/-- Does a claim go together with all holders? -/
def freeB (con : Nat → Wc) (x : Wc) (q : List Nat) : Bool := !((endsL q).any fun z => clash x (con z))
set_option maxRecDepth 100000 in
theorem free_any (con : Nat → Wc) (h : QAt W K 0 q) (hw : WtAt W w x) (hc : ∀ z ∈ q, WtAt W z (con z)) : Calls Try.prog 31 #[.pointer (some ⟨K, 0, none⟩), .pointer (some ⟨w, 0, none⟩)] W fun e W' => e = .returned (.bool (freeB con x q)) ∧ Below W.heap.size W W' := by
  have KE := Lib.hid (ends_any h)
  have hlen : (endsL q).length ≤ 100000 := by
    unfold endsL
    split <;> simp
  have KC := Lib.hid (fun a c W1 (hb : Below W.heap.size W W1) (hr : PRow W1 a (endsL q)) => contains_any 56 #[.pointer (some ⟨w, 0, none⟩)] (fun z => clash x (con z)) a (endsL q) c W1 hlen hr (enters_of Try.func56 (by kernel_rfl) rfl) (fun W' z hb' hz => clashes_any ((hw.below hb).below hb') (((hc z (endsL_mem hz)).below hb).below hb')))
  have HF : Hid (freeB con x q = !((endsL q).any fun z => clash x (con z))) := rfl
  generalize freeB con x q = r at *
  clear h hw hc hlen
  go_enter Try.func31, Try.ntmps31
  go_wp2_with fail
  refine KE.out.mono ?_
  rintro e w1 ⟨a, c, rfl, hr, hb⟩
  have K2 := Lib.hid (KC.out a c w1 hb hr)
  have HB := Lib.hid hb
  clear hb hr KC KE
  go_wp2_with fail
  refine K2.out.mono ?_
  rintro e w2 ⟨rfl, hb2⟩
  have HB2 := Lib.hid (HB.out.trans (hb2.mono HB.out.size))
  clear hb2 K2
  go_wp2
  go_ret
  exact ⟨by rw [HF.out]; rfl, HB2.out⟩
end
end Go.Proofs.Ytgabdlnbencglaa
