/-
  THE CONTRACTS OF pool's Held (sorted keys), each, kept (of a page without cells), Change.
-/
import Derived.Test.YtpkbopeddhgnlaaGreatDoorPlGet
namespace Go.Proofs.YtpkbopeddhgnlaaGreatDoor
open Go.RowKit Go.Maps Go.Sort Go.Shelf
/-- slices.Sort's two contracts at this translation, at the fence that asks nothing. -/
theorem pl_sortsA (m : Nat) : AnyZI.SortsIn Tryz.prog Tryz.sortedA_ren Fence.wide m :=
  ⟨fun blk off cap ss W hH hblk hsz => callsIn_wide.2 (AnyM.slices_Sort_int Tryz.sortA blk off cap ss W hH hblk hsz),
   fun p cap W => callsIn_wide.2 (AnyM.slices_Sort_int_none Tryz.sortA p cap W)⟩
set_option maxHeartbeats 1000000 in
/-- The keys of a map of frames, sorted. -/
theorem held_map {W : World} {Q MF k : Nat} (q2 : W.cell? ⟨Q, 2, none⟩ = some (.map (some MF))) (D0 : DataW Unit) (hown : W.ownsMap Tryz.prog 3 (frR (H := Unit)) MF k D0) (hsz : Maps.size D0 ≤ 10000) :
    Calls Tryz.prog 20 #[.pointer (some ⟨Q, 0, none⟩)] W fun e w' => ∃ (v : Value) (ss : List Int), e = .returned v ∧ ss.Perm (intKeys D0) ∧
      w'.ownsRow W.heap.size 3 1 v ss.length ((ss.mergeSort (fun x y => decide (x ≤ y))).map encZ) ∧ (v = .slice none 0 0 ↔ ss = []) ∧ Below W.heap.size W w' := by
  refine (callsIn_wide (n := 6)).1 ?_
  have hbl := hown.lt
  have hseq : SeqGives Fence.wide 2 Tryz.prog 64 #[.pointer (some ⟨W.heap.size, 0, none⟩)] encZ (fun ss => ss.Perm (intKeys D0)) (Maps.size D0) (W.alloc (.cells #[.map (some MF)] 64)) :=
    AnyZI.keys_gives (ρ := Tryz.keysA_ren) { Tryz.keysA with } Fence.wide _ trivial rfl (by omega) W.heap.size MF k D0 _ (by simp) (by simp) (by
      obtain ⟨es, clock, hb, Ft, hs, hD⟩ := hown
      exact ⟨es, clock, (Below.heap_alloc _ _ MF hbl).trans hb, Ft, hs, hD⟩)
  have cK : ∀ mb W, CallsIn Fence.wide 5 Tryz.prog 47 #[.map mb] W fun e w' => e = .returned (.func (.func 64) #[] #[.pointer (some ⟨W.heap.size, 0, none⟩)]) ∧ w' = W.alloc (.cells #[.map mb] 64) := fun mb W => AnyZI.keys_in Tryz.keysA Fence.wide 5 trivial rfl mb W
  have cS := AnyZI.sorted_in Tryz.sortedA Fence.wide 5 trivial trivial trivial trivial rfl (by omega) (pl_sortsA _) (enters_of Tryz.func63 (by kernel_rfl) rfl) 64 #[.pointer (some ⟨W.heap.size, 0, none⟩)] trivial (enters_of Tryz.func64 (by kernel_rfl) rfl) _ _ (by unfold maxLen; omega) (by omega) _ hseq
  change CallsIn _ _ Tryz.prog 46 _ _ _ at cS
  have hfK : Fence.wide.fn 47 := trivial
  have hfS : Fence.wide.fn 46 := trivial
  refine callsIn_of_wp Tryz.func20 rfl trivial ?_ rfl
  simp only [Tryz.ntmps20, List.size_toArray, List.length_cons, List.length_nil, Nat.reduceAdd, Nat.reduceSub, Array.replicate_succ, Array.replicate_zero, List.push_toArray, List.append_toArray, List.nil_append, List.cons_append]
  gi_wp2_with (first
    | (gi_at_call 47; refine (cK _ _).mono ?_; rintro e w' ⟨rfl, rfl⟩)
    | (gi_at_call 46; refine cS.mono ?_; rintro e w' ⟨v, ss, rfl, hS, hrow, hnil, hb⟩))
  go_ret
  exact ⟨v, ss, rfl, hS, ownsRow_base_a hrow (by simp), hnil, ((Below.refl _ W).alloc (Nat.le_refl _) _).trans (hb.mono (by simp))⟩
/-- Numbers in rising cells. -/
def IRow (W : World) (a : Option Addr) (ks : List Int) : Prop := ks = [] ∨ ∃ b off, a = some ⟨b, off, none⟩ ∧ ∀ i, i < ks.length → W.cell? ⟨b, off + i, none⟩ = some (.int .i64 (ks.getD i 0))
theorem IRow.below {W X : World} {a : Option Addr} {ks : List Int} (h : IRow W a ks) (hb : Below W.heap.size W X) : IRow X a ks := by
  rcases h with h | ⟨b, off, e, h⟩
  · exact .inl h
  · exact .inr ⟨b, off, e, fun i hi => Dv.keep_cell hb (h i hi)⟩
theorem irow_of_owns {W : World} {B : Nat} {v : Value} {l : List Int} (h : W.ownsRow B 3 1 v l.length (l.map encZ)) : ∃ a c, v = .slice a l.length c ∧ IRow W a l ∧ ∀ b off, a = some ⟨b, off, none⟩ → B ≤ b := by
  rcases h.2 with ⟨hv, h0⟩ | ⟨g, c, cur, hv, hg, _⟩
  · exact ⟨none, 0, by rw [hv, h0], .inl (List.length_eq_zero_iff.1 h0), fun b off e => by cases e⟩
  · subst hv
    refine ⟨_, c, rfl, .inr ⟨g, 0, rfl, fun i hi => ?_⟩, fun b off e => by injection e with e; injection e with e; omega⟩
    rw [Nat.zero_add, World.ownsRow.cellAt h i (by omega), List.getElem?_map, List.getD_eq_getElem?_getD, List.getElem?_eq_getElem hi]; rfl
section
variable {w W X : World} {D P L M n B T np Q room MF k : Nat} {now : Nat → Pg} {o : Int → Option Nat} {fv : Int → FrD}
/-- Which keys a pool has, rising. -/
structure KeysOf (o : Int → Option Nat) (ks : List Int) : Prop where
  rise : ks.Pairwise (· < ·)
  mem : ∀ i, i ∈ ks ↔ (o i).isSome = true
  few : ks.length ≤ 1000
theorem held_any (h : PlS w W D P L M n B T np now Q room MF k o fv) {ks : List Int} (hk : KeysOf o ks) :
    Calls Tryz.prog 20 #[.pointer (some ⟨Q, 0, none⟩)] W fun x w' => ∃ a c, x = .returned (.slice a ks.length c) ∧ IRow w' a ks ∧ (∀ b off, a = some ⟨b, off, none⟩ → W.heap.size ≤ b) ∧ Below W.heap.size W w' := by
  obtain ⟨D0, hown, _, hhas⟩ := h.mp
  have hnd : ks.Nodup := hk.rise.imp (fun hab e => by omega)
  have hp : ks.Perm (intKeys D0) := CollectedI.perm (D0 := D0) (left := fun _ => false) ⟨hnd, fun x => by rw [hk.mem x, hhas x]; simp⟩ hown pl_key Tryz.underlying3 (fun _ => rfl)
  have hsz : Maps.size D0 ≤ 10000 := by
    obtain ⟨es, rfl, _⟩ := hown.keysOf
    have h1 := hp.length_eq
    have h2 : (intKeys (DataW.map es)).length = es.length := by simp [intKeys]
    rw [size_eq]
    have := hk.few
    omega
  refine (held_map h.q2 D0 hown hsz).mono ?_
  rintro x w' ⟨v, ss, rfl, hss, hrow, _, hb⟩
  have he : ss.mergeSort (fun x y => decide (x ≤ y)) = ks := by
    have h1 : ss.mergeSort leI = ks.mergeSort leI := mergeSort_of_perm_i (hss.trans hp.symm)
    have h2 : ks.mergeSort leI = ks := List.mergeSort_of_pairwise (hk.rise.imp (fun {a b} hab => by simp only [leI, decide_eq_true_eq]; omega))
    exact h1.trans h2
  have hl : ss.length = ks.length := (hss.trans hp.symm).length_eq
  rw [he, hl] at hrow
  obtain ⟨a, c, rfl, h1, h2⟩ := irow_of_owns hrow
  exact ⟨a, c, rfl, h1, h2, hb⟩
end
/-- What comes of a list of numbers, one by one, up to the first error. -/
def eachR {St : Type} (R : Int → St → Int × St) (has : St → Int → Bool) : List Int → St → Int × St
  | [], s => (0, s)
  | x :: r, s => if has s x = true then (if (R x s).1 = 0 then eachR R has r (R x s).2 else R x s) else (7, s)
set_option maxRecDepth 100000 in
set_option maxHeartbeats 2000000 in
theorem each_any {St : Type} (R : Int → St → Int × St) (ob : St → Int → Option Nat) (Inv : St → World → Prop) (Q MF : Nat) (cf : FuncId) (caps : Array Value) (a : Option Addr) (ks : List Int) (c : Nat) (s0 : St) (W : World) (h0 : Inv s0 W) (hl : ks.length ≤ 1000) (hw : ∀ x ∈ ks, (Lit.int .i64 x).wf = true) (eg : ∀ args w, (callFunc cf args).run Tryz.prog w = .ok (.enter cf args) w)
    (hq : ∀ s W', Inv s W' → W'.cell? ⟨Q, 2, none⟩ = some (.map (some MF)) ∧ (∃ k, FrAt W' MF k (ob s)) ∧ IRow W' a ks)
    (hcall : ∀ s W' x F, Inv s W' → x ∈ ks → ob s x = some F → Calls Tryz.prog cf (#[.pointer (some ⟨F, 0, none⟩)] ++ caps) W' fun e w' => e = .returned (.int .i64 (R x s).1) ∧ Inv (R x s).2 w') :
    Calls Tryz.prog 30 #[.pointer (some ⟨Q, 0, none⟩), .slice a ks.length c, .func (.func cf) #[] caps] W fun e w' => e = .returned (.int .i64 (eachR R (fun s x => (ob s x).isSome) ks s0).1) ∧ Inv (eachR R (fun s x => (ob s x).isSome) ks s0).2 w' := by
  obtain ⟨O, hO⟩ : ∃ O, eachR R (fun s x => (ob s x).isSome) ks s0 = O := ⟨_, rfl⟩
  rw [hO]
  have HO : Hid (eachR R (fun s x => (ob s x).isSome) (ks.drop 0) s0 = O) := hO
  have H0 := Lib.hid h0
  have HW := Lib.hid hw
  have HQ := Lib.hid hq
  have HC := Lib.hid hcall
  clear hO h0 hw hq hcall
  go_enter Tryz.func30, Tryz.ntmps30
  go_wp2
  go_loopw [16] (fun i wr => ∃ (j : Nat) (s : St), j ≤ ks.length ∧ i = .int .i64 j ∧ Hid (eachR R (fun s x => (ob s x).isSome) (ks.drop j) s = O) ∧ Hid (Inv s wr)) (fun i _ => ks.length - (intOf i).toNat)
  case atStart => exact ⟨0, s0, Nat.zero_le _, rfl, HO, H0⟩
  case round =>
    obtain ⟨j, s, hj, rfl, HE, HS⟩ := hrel
    rename World => wr
    clear HO H0
    by_cases hlt : j < ks.length
    · obtain ⟨q2, ⟨kk, hm⟩, hrow⟩ := HQ.out s wr HS.out
      rcases hrow with hnil | ⟨b, off, rfl, hcs⟩
      · rw [hnil] at hlt; exact absurd hlt (Nat.not_lt_zero _)
      have hc := hcs j hlt
      obtain ⟨x, hx⟩ : ∃ x, x = ks.getD j 0 := ⟨_, rfl⟩
      have hmem : x ∈ ks := by rw [hx, List.getD_eq_getElem?_getD, List.getElem?_eq_getElem hlt]; exact List.getElem_mem hlt
      have hd : ks.drop j = x :: ks.drop (j + 1) := by rw [List.drop_eq_getElem_cons hlt, hx, List.getD_eq_getElem?_getD, List.getElem?_eq_getElem hlt]; rfl
      have hE := HE.out
      rw [hd] at hE
      rw [← hx] at hc
      have lk := hm.lookOk x (HW.out x hmem)
      have hlt' : (j : Int) < (ks.length : Int) := by omega
      unfold eachR at hE
      clear hm hcs hd hx
      cases ho : ob s x with
      | none =>
        rw [ho] at lk hE
        rw [show frV none = Value.pointer none from rfl, show (none : Option Nat).isSome = false from rfl] at lk
        rw [if_neg (by simp)] at hE
        have hE2 := Lib.hid hE
        clear hE ho
        go_wp2
        go_ret
        exact ⟨by rw [← hE2.out]; rfl, by rw [← hE2.out]; exact HS.out⟩
      | some F =>
        rw [ho] at lk hE
        rw [show frV (some F) = Value.pointer (some ⟨F, 0, none⟩) from rfl, show (some F).isSome = true from rfl] at lk
        rw [if_pos (by simp)] at hE
        have KC := Lib.hid (HC.out s wr x F HS.out hmem ho)
        clear ho
        by_cases he : (R x s).1 = 0
        · rw [if_pos he] at hE
          rw [he] at KC
          have hE2 := Lib.hid hE
          clear hE he hmem
          go_wp2_with (go_at_fn cf; refine KC.out.mono ?_; rintro e w2 ⟨rfl, hi⟩)
          have HI := Lib.hid hi
          clear hi KC lk q2 hc
          go_wp2
          go_roundw
          case rel => exact ⟨j + 1, _, by omega, by go_num, hE2, HI⟩
          case measure => simp [intOf]; omega
        · rw [if_neg he] at hE
          have hE2 := Lib.hid hE
          rw [hE] at KC he
          clear hE hmem
          go_wp2_with (go_at_fn cf; refine KC.out.mono ?_; rintro e w2 ⟨rfl, hi⟩)
          have HI := Lib.hid hi
          clear hi KC lk q2 hc
          go_wp2
          go_ret
          exact ⟨rfl, HI.out⟩
    · have hj1 : (ks.length : Int) ≤ (j : Int) := by omega
      have hE := HE.out
      rw [List.drop_of_length_le (by omega)] at hE
      have hE2 := Lib.hid hE
      clear hE
      go_wp2
      go_ret
      exact ⟨by rw [← hE2.out]; rfl, by rw [← hE2.out]; exact HS.out⟩
end Go.Proofs.YtpkbopeddhgnlaaGreatDoor
