/-
  THE CONTRACT OF twice's blank: whether all bytes are 00.
  THE CONTRACT OF twice's text: what stands in four sectors.
  THE CONTRACT OF twice's text, where the power is off.
  THE CONTRACT OF twice's store: a page is written, as far as the power lasts; one that isn't right, or isn't there, is refused.
-/
import Derived.Test.YtcdnkmjjedbbpaaGreatDoorTwNote
import Derived.Test.YtcdnkmjjedbbpaaGreatDoorTwPure
namespace Go.Proofs.YtcdnkmjjedbbpaaGreatDoor
open Go.RowKit
theorem tw_drop_nil {p : UInt8 → Bool} : ∀ {l : List UInt8}, l.dropWhile p = [] → ∀ x ∈ l, p x = true
  | [], _ => fun x hx => by cases hx
  | y :: l, h => by
    rw [List.dropWhile_cons] at h
    split at h
    · rename_i hy
      intro x hx
      rcases List.mem_cons.1 hx with rfl | hx
      · exact hy
      · exact tw_drop_nil h x hx
    · cases h
theorem tw_nil_drop {p : UInt8 → Bool} : ∀ {l : List UInt8}, (∀ x ∈ l, p x = true) → l.dropWhile p = []
  | [], _ => rfl
  | y :: l, h => by
    rw [List.dropWhile_cons, h y List.mem_cons_self, if_pos rfl]
    exact tw_nil_drop fun x hx => h x (List.mem_cons_of_mem _ hx)
theorem tw_trim_yes (n : Nat) : Lib.trimB (List.replicate n 0) 0 = [] := by
  unfold Lib.trimB Lib.trimLeftB Lib.trimRightB
  have h : ∀ k : Nat, (List.replicate k (0 : UInt8)).dropWhile (· == 0) = [] := fun k => by
    refine tw_nil_drop fun x hx => ?_
    rw [List.eq_of_mem_replicate hx]; rfl
  rw [List.reverse_replicate, h]; rfl
theorem tw_all_zero {l : List UInt8} (h : ∀ x ∈ l, (x == 0) = true) : l = List.replicate l.length 0 := by
  rw [List.eq_replicate_iff]
  exact ⟨rfl, fun x hx => by have := h x hx; simpa using this⟩
theorem tw_trim_no {l : List UInt8} (h : Lib.trimB l 0 = []) : l = List.replicate l.length 0 := by
  unfold Lib.trimB Lib.trimLeftB Lib.trimRightB at h
  have h := tw_drop_nil h
  have h1 : l.reverse.dropWhile (· == 0) = [] := by
    cases hd : l.reverse.dropWhile (· == 0) with
    | nil => rfl
    | cons x r =>
      have hx := h x (by rw [hd]; simp)
      have h3 := List.head?_dropWhile_not (fun a : UInt8 => a == 0) l.reverse
      rw [hd] at h3
      simp at h3
      simp at hx
      exact absurd hx h3
  have h1 := tw_drop_nil h1
  exact tw_all_zero fun x hx => h1 x (List.mem_reverse.2 hx)
/-- Nothing but 00. -/
def allZ (s : ByteArray) : Bool := (Lib.trimB s.data.toList 0).isEmpty
theorem allZ_yes (n : Nat) : allZ (bstr (List.replicate n 0)) = true := by
  unfold allZ
  rw [bstr_data, tw_trim_yes]; rfl
theorem allZ_no {s : ByteArray} (h : allZ s = true) : s = bstr (List.replicate s.size 0) := by
  unfold allZ at h
  have := tw_trim_no (List.isEmpty_iff.1 h)
  apply bs_ext
  rw [bstr_data, this, Array.length_toList]; rfl
theorem blank_any (s : ByteArray) (hs : s.size ≤ 100000) (w : World) : Calls Tryz.prog 41 #[.string s] w fun e w' => e = .returned (.bool (allZ s)) ∧ Below w.heap.size w w' := by
  have KT := Lib.hid (fun W => Tryz.strings_Trim_one s 0 (by decide) W (by omega))
  have hz : (⟨(Lib.trimB s.data.toList 0).toArray⟩ : ByteArray).toList.isEmpty = allZ s := by rw [ByteArray.toList_eq]; rfl
  generalize (⟨(Lib.trimB s.data.toList 0).toArray⟩ : ByteArray) = tt at *
  go_enter Tryz.func41, Tryz.ntmps41
  go_wp2_with fail
  refine (KT.out _).mono ?_
  rintro e w2 ⟨rfl, hw2⟩
  have hb2 : Below w.heap.size w w2 := by
    rcases hw2 with rfl | rfl
    · exact Below.refl _ _
    · exact (Below.refl _ _).drew
  clear hw2 KT
  go_wp2
  go_ret
  exact ⟨rfl, hb2⟩
end Go.Proofs.YtcdnkmjjedbbpaaGreatDoor

namespace Go.Proofs.YtcdnkmjjedbbpaaGreatDoor
open Go.RowKit
/-- Four texts in a row. -/
structure Ar4 (W : World) (A : Nat) (t : Nat → ByteArray) : Prop where
  c : ∀ j, j < 4 → W.cell? ⟨A, j, none⟩ = some (.string (t j))
  f : ∀ j, W.frozen? ⟨A, j, none⟩ = false
theorem Ar4.below {W X : World} {A : Nat} {t : Nat → ByteArray} (h : Ar4 W A t) (hb : Below W.heap.size W X) : Ar4 X A t where
  c := fun j hj => Dv.keep_cell hb (h.c j hj)
  f := fun j => (hb.frozen (p := ⟨A, j, none⟩) (Dv.block_lt (p := ⟨A, 0, none⟩) (h.c 0 (by omega)))).trans (h.f j)
theorem Ar4.set {W : World} {A : Nat} {t : Nat → ByteArray} (h : Ar4 W A t) (k : Nat) (hk : k < 4) (x : ByteArray) : Ar4 (W.setCell ⟨A, k, none⟩ (.string x)) A (fun j => if j = k then x else t j) where
  c := fun j hj => by
    by_cases e : j = k
    · subst e; rw [if_pos rfl]; exact World.cell?_setCell_same _ _ _ (h.c j hj)
    · rw [if_neg e, World.cell?_setCell_other _ _ _ _ (fun x => by injection x with _ x; exact e x.symm)]; exact h.c j hj
  f := fun j => by rw [World.frozen?_setCell]; exact h.f j
set_option maxRecDepth 100000 in
theorem slice_ar4 (W : World) (b : Nat) : (Instr.sliceAt 94 (.pointer (some ⟨b, 0, none⟩)) none none none).run Tryz.prog W = .ok (.slice (some ⟨b, 0, none⟩) 4 4) W := by
  have hA : Tryz.prog.arrayLen 94 = 4 := by kernel_rfl
  have hsl := run_sliceAt_array_all (P := Tryz.prog) W 94 ⟨b, 0, none⟩ (by kernel_rfl)
  rw [hA] at hsl
  have he : (sizeOf (Tryz.prog.elem 94)).run Tryz.prog W = .ok 1 W := Tryz.sizeOf9 W
  rw [he] at hsl
  simp only [Result.andThen, slicedAt] at hsl
  rw [hsl, if_neg (by omega), Addr.add_mid]
theorem txt4_join (g : Nat → List UInt8) (a : Nat) : (⟨(joined [Dv.txt (g a), Dv.txt (g (a + 1)), Dv.txt (g (a + 2)), Dv.txt (g (a + 3))]).toArray⟩ : ByteArray) = txt4 g a := by
  unfold joined txt4 bstr Dv.txt
  simp
section
variable {w W : World} {D P L M n B T pages : Nat} {s : Ds}
theorem rdV_on (h : s.pm ≠ .off) (j : Nat) : rdV s j = .tuple #[.string (Dv.txt (vw s j)), .int .i64 0] := by
  unfold rdV
  cases hp : s.pm with
  | off => exact absurd hp h
  | on => rfl
  | arm i => rfl
theorem rdV_off (h : s.pm = .off) (j : Nat) : rdV s j = .tuple #[.string ⟨#[]⟩, .int .i64 6] := by
  unfold rdV; rw [h]
set_option maxRecDepth 100000 in
set_option maxHeartbeats 4000000 in
theorem text_s (h : TwS w W D P L M n B T pages s) (hon : s.pm ≠ .off) (a : Nat) (ha : a + 4 ≤ n) (hn : n ≤ 4096) :
    Calls Tryz.prog 40 #[.pointer (some ⟨T, 0, none⟩), .int .i64 (a : Int)] W fun x w' => x = .returned (.tuple #[.string (txt4 (vw s) a), .int .i64 0]) ∧ Below W.heap.size W w' := by
  have hba := (Below.refl W.heap.size W).alloc (Nat.le_refl _) (.cells #[.string ⟨#[]⟩, .string ⟨#[]⟩, .string ⟨#[]⟩, .string ⟨#[]⟩] 94)
  have A0 : Hid (Ar4 (W.alloc (.cells #[.string ⟨#[]⟩, .string ⟨#[]⟩, .string ⟨#[]⟩, .string ⟨#[]⟩] 94)) W.heap.size (fun _ => ⟨#[]⟩)) := ⟨fun j hj => by
    match j, hj with
    | 0, _ => exact Dv.new_cell rfl rfl
    | 1, _ => exact Dv.new_cell rfl rfl
    | 2, _ => exact Dv.new_cell rfl rfl
    | 3, _ => exact Dv.new_cell rfl rfl, fun _ => World.frozen?_alloc_at _ _ _ _ rfl⟩
  have H0 := Lib.hid h
  have B0 := Lib.hid hba
  have hl := h.d.vlen
  have a0 : (0 : Int) ≤ (a : Int) := by omega
  have a1 : (a : Int) ≤ 4096 := by omega
  clear h hba
  obtain ⟨R, hR⟩ : ∃ R, R = txt4 (vw s) a := ⟨_, rfl⟩
  rw [← hR]
  have HR := Lib.hid hR
  clear hR
  go_enter Tryz.func40, Tryz.ntmps40
  go_upto_region 2 with fail
  generalize W.alloc (.cells #[.string ⟨#[]⟩, .string ⟨#[]⟩, .string ⟨#[]⟩, .string ⟨#[]⟩] 94) = X at *
  obtain ⟨A, hA⟩ : ∃ A, A = W.heap.size := ⟨_, rfl⟩
  rw [← hA] at A0 ⊢
  have HAe := Lib.hid hA
  clear hA
  go_wp2
  go_loopw [10] (fun i wr => ∃ (k : Nat) (t : Nat → ByteArray), k ≤ 4 ∧ i = .int .i64 k ∧ Hid (Ar4 wr A t) ∧ Hid (∀ j, j < k → t j = Dv.txt (vw s (a + j))) ∧ Hid (Below W.heap.size W wr)) (fun i _ => 4 - (intOf i).toNat)
  case atStart => exact ⟨0, _, Nat.zero_le _, rfl, A0, (fun j hj => by omega : ∀ j, j < 0 → _ = Dv.txt (vw s (a + j))), B0⟩
  case round =>
    obtain ⟨k, t, hk, rfl, HA, ht, HB⟩ := hrel
    rename World => wa
    clear A0 B0
    have HS := Lib.hid (H0.out.below HB.out)
    have hk0 : (0 : Int) ≤ (k : Int) := by omega
    by_cases hlt : k < 4
    · have hk1 : (k : Int) < 4 := by omega
      obtain ⟨j, hj⟩ : ∃ j, j = a + k := ⟨_, rfl⟩
      have e0 : IntKind.i64.wrap ((a : Int) + (k : Int)) = (j : Int) := by rw [IntWalk.i64_in _ (by omega)]; omega
      have KR := Lib.hid (read_s HS.out.d j (by omega) hn)
      rw [rdV_on hon] at KR
      obtain ⟨v, hv⟩ : ∃ v, v = Dv.txt (vw s j) := ⟨_, rfl⟩
      rw [← hv] at KR
      have Hv := Lib.hid hv
      have Hj := Lib.hid hj
      clear hv hj
      have hcell := HS.out.t0
      go_wp2_with fail
      refine KR.out.mono ?_
      rintro x w1 ⟨rfl, hb1⟩
      have HA1 := Lib.hid (HA.out.below hb1)
      have HB1 := Lib.hid (HB.out.trans (hb1.mono HB.out.size))
      have hc := HA1.out.c k hlt
      have hf := HA1.out.f
      clear hb1 HA HS HB KR hcell e0
      have HA2 := Lib.hid (HA1.out.set k hlt v)
      have hset : Below W.heap.size W (w1.setCell ⟨A, k, none⟩ (.string v)) := HB1.out.setCell (by show W.heap.size ≤ A; have := HAe.out; omega) _
      have HB2 := Lib.hid hset
      clear HA1 HB1 hset
      go_wp2
      go_roundw
      case rel =>
        refine ⟨k + 1, _, by omega, by go_num, HA2, (show ∀ i, i < k + 1 → _ from fun i hi => ?_), HB2⟩
        by_cases e : i = k
        · subst e; rw [if_pos rfl, Hv.out, Hj.out]
        · rw [if_neg e]; exact ht.out i (by omega)
      case measure => simp [intOf]; omega
    · have hk4 : k = 4 := by omega
      have hk1 : (4 : Int) ≤ (k : Int) := by omega
      have hss : StrsAt wa (some ⟨A, 0, none⟩) [Dv.txt (vw s a), Dv.txt (vw s (a + 1)), Dv.txt (vw s (a + 2)), Dv.txt (vw s (a + 3))] := .inr ⟨A, 0, rfl, fun j hj => by
        rw [Nat.zero_add, HA.out.c j (by simpa using hj), ht.out j (Nat.lt_of_lt_of_le (show j < 4 from hj) (by omega))]
        match j, hj with
        | 0, _ => rfl
        | 1, _ => rfl
        | 2, _ => rfl
        | 3, _ => rfl⟩
      have hlen : (joined [Dv.txt (vw s a), Dv.txt (vw s (a + 1)), Dv.txt (vw s (a + 2)), Dv.txt (vw s (a + 3))]).length ≤ 140737488355328 := by
        have e : ∀ j, j < n → (Dv.txt (vw s j)).data.toList.length = 64 := fun j hj => hl j hj
        unfold joined
        simp only [List.flatMap_cons, List.flatMap_nil, List.length_append, List.length_nil]
        rw [e a (by omega), e (a + 1) (by omega), e (a + 2) (by omega), e (a + 3) (by omega)]
        omega
      have KJ := Lib.hid (join_any (some ⟨A, 0, none⟩) _ 4 wa hss (Nat.le_refl _) (by show 4 ≤ _; omega) hlen)
      rw [txt4_join, ← HR.out, show ([Dv.txt (vw s a), Dv.txt (vw s (a + 1)), Dv.txt (vw s (a + 2)), Dv.txt (vw s (a + 3))] : List ByteArray).length = 4 from rfl] at KJ
      have ksl := slice_ar4 wa A
      clear hss hlen HA ht HS hl
      go_wp2_with fail
      refine KJ.out.mono ?_
      rintro x w2 ⟨rfl, hb2⟩
      have HB2 := Lib.hid (HB.out.trans (hb2.mono HB.out.size))
      clear hb2 HB KJ ksl
      go_wp2
      go_ret2
      exact ⟨rfl, HB2.out⟩
end
end Go.Proofs.YtcdnkmjjedbbpaaGreatDoor

namespace Go.Proofs.YtcdnkmjjedbbpaaGreatDoor
open Go.RowKit
section
variable {w W : World} {D P L M n B T pages : Nat} {s : Ds}
theorem text_off (h : TwS w W D P L M n B T pages s) (ho : s.pm = .off) (a : Nat) (ha : a + 4 ≤ n) (hn : n ≤ 4096) :
    Calls Tryz.prog 40 #[.pointer (some ⟨T, 0, none⟩), .int .i64 (a : Int)] W fun x w' => x = .returned (.tuple #[.string ⟨#[]⟩, .int .i64 6]) ∧ Below W.heap.size W w' := by
  have hba := (Below.refl W.heap.size W).alloc (Nat.le_refl _) (.cells #[.string ⟨#[]⟩, .string ⟨#[]⟩, .string ⟨#[]⟩, .string ⟨#[]⟩] 94)
  have KR := Lib.hid (read_s (h.below hba).d a (by omega) hn)
  rw [rdV_off ho] at KR
  have t0 := (h.below hba).t0
  have a0 : (0 : Int) ≤ (a : Int) := by omega
  have a1 : (a : Int) ≤ 4096 := by omega
  clear h
  go_enter Tryz.func40, Tryz.ntmps40
  go_upto_region 2 with fail
  generalize W.alloc (.cells #[.string ⟨#[]⟩, .string ⟨#[]⟩, .string ⟨#[]⟩, .string ⟨#[]⟩] 94) = X at *
  go_wp2
  go_loopw [10] (fun i wr => i = .int .i64 0 ∧ wr = X) (fun i _ => 4 - (intOf i).toNat)
  case atStart => exact ⟨rfl, rfl⟩
  case round =>
    obtain ⟨rfl, rfl⟩ := hrel
    go_wp2_with fail
    refine KR.out.mono ?_
    rintro x w1 ⟨rfl, hb1⟩
    go_wp2
    go_ret2
    exact ⟨rfl, hba.trans (hb1.mono hba.size)⟩
end
end Go.Proofs.YtcdnkmjjedbbpaaGreatDoor

namespace Go.Proofs.YtcdnkmjjedbbpaaGreatDoor
open Go.RowKit
theorem ba_neL2 {s : ByteArray} (h : s.size = 256) : (s.toList == []) = false ∧ ¬ s.toList = [] ∧ s.toList.isEmpty = false := by
  have hz : s.toList ≠ [] := fun e => by
    rw [ByteArray.toList_eq] at e
    have := Dv.ba_len s
    rw [e, h] at this
    cases this
  refine ⟨?_, hz, by rw [List.isEmpty_eq_false_iff]; exact hz⟩
  rw [beq_eq_false_iff_ne]; exact hz
section
variable {w W : World} {D P L M n B T pages : Nat} {s : Ds}
theorem TwP.t {x : Ending} {w' : World} {o : Bool × Ds} (h : TwP w W D P L M n B T pages o x w') (ho : o.1 = true) : x = .returned (.int .i64 0) ∧ TwS w w' D P L M n B T pages o.2 ∧ Dv.Fr3 P L M W w' := by
  unfold TwP at h; rw [er_t ho] at h; exact h
theorem TwP.f {x : Ending} {w' : World} {o : Bool × Ds} (h : TwP w W D P L M n B T pages o x w') (ho : o.1 = false) : x = .returned (.int .i64 6) ∧ TwS w w' D P L M n B T pages o.2 ∧ Dv.Fr3 P L M W w' := by
  unfold TwP at h; rw [er_f ho] at h; exact h
set_option maxRecDepth 100000 in
set_option maxHeartbeats 4000000 in
theorem store_ok (h : TwS w W D P L M n B T pages s) (hB : B + 14 ≤ 900000) (hn : n ≤ 4096) (hfit : 5 + 4 * pages ≤ n) (no : Nat) (g : Int) (a : Option Addr) (l : List (ByteArray × ByteArray)) (c : Nat) (ha : ClsAt W a l) (hno : no < pages) (ho : pgOk no g l = true) :
    Calls Tryz.prog 32 #[.pointer (some ⟨T, 0, none⟩), .agg #[.int .i64 (no : Int), .int .i64 g, .slice a l.length c]] W (TwP w W D P L M n (B + 14) T pages (storeM no (pgBytes no g l) s)) := by
  have hno6 : no < 64 := by have := (pgOk_parts ho).2.1; omega
  have hba := (Below.refl W.heap.size W).alloc (Nat.le_refl _) (.cells #[.int .i64 (no : Int), .int .i64 g, .slice a l.length c] 36)
  have KL := Lib.hid (pgLaid_any no g a l c _ (ha.below hba) ((h.below hba).tabW) ho)
  have hsz := pgBytes_size ho
  have S0 := Lib.hid (h.below hba)
  have F0 := Lib.hid (Dv.Fr3.of_below (P := P) (L := L) (M := M) hba)
  have c0 : (W.alloc (.cells #[.int .i64 (no : Int), .int .i64 g, .slice a l.length c] 36)).cell? ⟨W.heap.size, 0, none⟩ = some (.int .i64 (no : Int)) := Dv.new_cell rfl rfl
  have d1 : (W.alloc (.cells #[.int .i64 (no : Int), .int .i64 g, .slice a l.length c] 36)).cell? ⟨W.heap.size, 1, none⟩ = some (.int .i64 g) := Dv.new_cell rfl rfl
  have d2 : (W.alloc (.cells #[.int .i64 (no : Int), .int .i64 g, .slice a l.length c] 36)).cell? ⟨W.heap.size, 2, none⟩ = some (.slice a l.length c) := Dv.new_cell rfl rfl
  have hN : W.heap.size ≠ P ∧ W.heap.size ≠ L ∧ W.heap.size ≠ M := by have := h.d.lts; omega
  obtain ⟨b, hb⟩ : ∃ b, b = pgBytes no g l := ⟨_, rfl⟩
  rw [← hb] at KL hsz ⊢
  obtain ⟨hn1, hn2, hn3⟩ := ba_neL2 hsz
  have hge : decide ((pages : Int) ≤ (no : Int)) = false := by rw [decide_eq_false_iff_not]; omega
  have hlt : (no : Int) < (pages : Int) := by omega
  have hno0 : (0 : Int) ≤ (no : Int) := by omega
  have hno1 : (no : Int) < 64 := by omega
  have e1 : ((no : Int) + 1) = ((no + 1 : Nat) : Int) := by omega
  have hpl : place no + 4 ≤ n := by unfold place; omega
  clear hb ha hba
  obtain ⟨Q, hQ⟩ : ∃ Q, Q = W.heap.size := ⟨_, rfl⟩
  rw [← hQ] at c0 d1 d2 hN
  go_enter Tryz.func32, Tryz.ntmps32
  go_upto_region 1 with fail
  rw [← hQ]
  generalize W.alloc (.cells #[.int .i64 (no : Int), .int .i64 g, .slice a l.length c] 36) = X at *
  clear hQ
  go_wp2_with fail
  refine KL.out.mono ?_
  rintro x w1 ⟨rfl, hb1⟩
  have S1 := Lib.hid (S0.out.below hb1)
  have F1 := Lib.hid (F0.out.trans (Dv.Fr3.of_below hb1))
  have c1 := Dv.keep_cell hb1 c0
  have KA := Lib.hid (fun W1 (hS : TwS w W1 D P L M n B T pages s) => lay_s hS (by omega) hn 1 (by omega) b hsz)
  rw [show ((1 : Nat) : Int) = 1 from rfl] at KA
  have ht1 := S1.out.t1
  clear S0 F0 c0 d1 d2 KL hb1
  have HE : Hid (storeM no b s = sq (layM 1 b) (sq (noteM (no + 1)) (settleM no b)) s) := rfl
  cases hA : (layM 1 b s).1 with
  | false =>
    have HO : Hid (storeM no b s = (false, (layM 1 b s).2)) := by rw [Hid, HE.out, sq_f hA]
    have KA2 := Lib.hid (fun W1 hS => (KA.out W1 hS).mono fun x w' hh => hh.f hA)
    clear KA HE hA hn1 hn2 hsz
    go_wp2
    go_quiet (fail)
    go_wp2_with fail
    refine (KA2.out _ (S1.out.below (below_drewN (Below.refl _ _) _))).mono ?_
    rintro x w2 ⟨rfl, hs2, hf2⟩
    have S2 := Lib.hid hs2
    have F2 := Lib.hid (F1.out.trans ((Dv.Fr3.of_below (below_drewN (Below.refl _ _) _)).trans hf2))
    clear hs2 hf2 KA2 S1 F1
    go_wp2
    go_ret
    exact ⟨by rw [HO.out]; rfl, by rw [HO.out]; exact S2.out.more (by omega), F2.out⟩
  | true =>
    have HE2 : Hid (storeM no b s = sq (noteM (no + 1)) (settleM no b) (layM 1 b s).2) := by rw [Hid, HE.out, sq_t hA]
    have KA2 := Lib.hid (fun W1 hS => (KA.out W1 hS).mono fun x w' hh => hh.t hA)
    clear KA HE hA hn1 hn2
    go_wp2
    go_quiet (fail)
    go_wp2_with fail
    refine (KA2.out _ (S1.out.below (below_drewN (Below.refl _ _) _))).mono ?_
    rintro x w2 ⟨rfl, hs2, hf2⟩
    have c2 := hf2.cell (show (w1.drewN _).cell? ⟨Q, 0, none⟩ = _ from c1) hN.1 hN.2.1 hN.2.2
    have S2 := Lib.hid hs2
    have F2 := Lib.hid (F1.out.trans ((Dv.Fr3.of_below (below_drewN (Below.refl _ _) _)).trans hf2))
    clear hs2 hf2 KA2 S1 F1 c1 ht1
    generalize (layM 1 b s).2 = s2 at *
    have KN := Lib.hid (note_s S2.out (by omega) hn (by omega) (no + 1) (by omega))
    rw [← e1] at KN
    cases hN2 : (noteM (no + 1) s2).1 with
    | false =>
      have HO : Hid (storeM no b s = (false, (noteM (no + 1) s2).2)) := by rw [Hid, HE2.out, sq_f hN2]
      have KN2 := Lib.hid (KN.out.mono fun x w' hh => hh.f hN2)
      clear KN HE2 hN2 hsz e1
      go_wp2_with fail
      refine KN2.out.mono ?_
      rintro x w3 ⟨rfl, hs3, hf3⟩
      have S3 := Lib.hid hs3
      have F3 := Lib.hid (F2.out.trans hf3)
      clear hs3 hf3 KN2 S2 F2
      go_wp2
      go_ret
      exact ⟨by rw [HO.out]; rfl, by rw [HO.out]; exact S3.out.more (by omega), F3.out⟩
    | true =>
      have HO : Hid (storeM no b s = settleM no b (noteM (no + 1) s2).2) := by rw [Hid, HE2.out, sq_t hN2]
      have KN2 := Lib.hid (KN.out.mono fun x w' hh => hh.t hN2)
      clear KN HE2 hN2 e1
      go_wp2_with fail
      refine KN2.out.mono ?_
      rintro x w3 ⟨rfl, hs3, hf3⟩
      have c3 := hf3.cell c2 hN.1 hN.2.1 hN.2.2
      have S3 := Lib.hid hs3
      have F3 := Lib.hid (F2.out.trans hf3)
      clear hs3 hf3 KN2 S2 F2 c2
      generalize (noteM (no + 1) s2).2 = s3 at *
      have KT := Lib.hid (settle_s S3.out (by omega) hn no hpl b hsz)
      clear hsz
      go_wp2_with fail
      refine KT.out.mono ?_
      rintro x w4 ⟨rfl, hs4, hf4⟩
      have S4 := Lib.hid hs4
      have F4 := Lib.hid (F3.out.trans hf4)
      clear hs4 hf4 KT S3 F3
      go_wp2
      go_ret
      exact ⟨by rw [HO.out]; rfl, by rw [HO.out]; exact S4.out.more (by omega), F4.out⟩
set_option maxRecDepth 100000 in
set_option maxHeartbeats 4000000 in
theorem store_bad (T : Nat) (no g : Int) (a : Option Addr) (l : List (ByteArray × ByteArray)) (c : Nat) (ha : ClsAt W a l) (hl : l.length ≤ maxLen) (ho : pgOk no g l = false) :
    Calls Tryz.prog 32 #[.pointer (some ⟨T, 0, none⟩), .agg #[.int .i64 no, .int .i64 g, .slice a l.length c]] W fun x w' => x = .returned (.int .i64 1) ∧ Below W.heap.size W w' := by
  have hba := (Below.refl W.heap.size W).alloc (Nat.le_refl _) (.cells #[.int .i64 no, .int .i64 g, .slice a l.length c] 36)
  have KL := Lib.hid (pgLaid_bad no g a l c _ hl (ha.below hba) ho)
  have c0 : (W.alloc (.cells #[.int .i64 no, .int .i64 g, .slice a l.length c] 36)).cell? ⟨W.heap.size, 0, none⟩ = some (.int .i64 no) := Dv.new_cell rfl rfl
  have d1 : (W.alloc (.cells #[.int .i64 no, .int .i64 g, .slice a l.length c] 36)).cell? ⟨W.heap.size, 1, none⟩ = some (.int .i64 g) := Dv.new_cell rfl rfl
  have d2 : (W.alloc (.cells #[.int .i64 no, .int .i64 g, .slice a l.length c] 36)).cell? ⟨W.heap.size, 2, none⟩ = some (.slice a l.length c) := Dv.new_cell rfl rfl
  clear ha ho
  go_enter Tryz.func32, Tryz.ntmps32
  go_upto_region 1 with fail
  generalize W.alloc (.cells #[.int .i64 no, .int .i64 g, .slice a l.length c] 36) = X at *
  go_wp2_with fail
  refine KL.out.mono ?_
  rintro x w1 ⟨rfl, hb1⟩
  have hb2 := hba.trans (hb1.mono hba.size)
  clear hba hb1 KL c0 d1 d2
  go_wp2
  go_quiet (fail)
  go_wp2
  go_ret
  exact ⟨rfl, below_drewN hb2 _⟩
set_option maxRecDepth 100000 in
set_option maxHeartbeats 4000000 in
theorem store_far (h : TwS w W D P L M n B T pages s) (no g : Int) (a : Option Addr) (l : List (ByteArray × ByteArray)) (c : Nat) (ha : ClsAt W a l) (hfar : (pages : Int) ≤ no) (ho : pgOk no g l = true) :
    Calls Tryz.prog 32 #[.pointer (some ⟨T, 0, none⟩), .agg #[.int .i64 no, .int .i64 g, .slice a l.length c]] W fun x w' => x = .returned (.int .i64 1) ∧ Below W.heap.size W w' := by
  have hba := (Below.refl W.heap.size W).alloc (Nat.le_refl _) (.cells #[.int .i64 no, .int .i64 g, .slice a l.length c] 36)
  have KL := Lib.hid (pgLaid_any no g a l c _ (ha.below hba) ((h.below hba).tabW) ho)
  have ht := (h.below hba).t1
  have c0 : (W.alloc (.cells #[.int .i64 no, .int .i64 g, .slice a l.length c] 36)).cell? ⟨W.heap.size, 0, none⟩ = some (.int .i64 no) := Dv.new_cell rfl rfl
  have d1 : (W.alloc (.cells #[.int .i64 no, .int .i64 g, .slice a l.length c] 36)).cell? ⟨W.heap.size, 1, none⟩ = some (.int .i64 g) := Dv.new_cell rfl rfl
  have d2 : (W.alloc (.cells #[.int .i64 no, .int .i64 g, .slice a l.length c] 36)).cell? ⟨W.heap.size, 2, none⟩ = some (.slice a l.length c) := Dv.new_cell rfl rfl
  obtain ⟨hn1, hn2, hn3⟩ := ba_neL2 (pgBytes_size ho)
  have hge : decide ((pages : Int) ≤ no) = true := decide_eq_true hfar
  generalize pgBytes no g l = b at *
  clear h ha ho hn1 hn2
  go_enter Tryz.func32, Tryz.ntmps32
  go_upto_region 1 with fail
  generalize W.alloc (.cells #[.int .i64 no, .int .i64 g, .slice a l.length c] 36) = X at *
  go_wp2_with fail
  refine KL.out.mono ?_
  rintro x w1 ⟨rfl, hb1⟩
  have c1 := Dv.keep_cell hb1 c0
  have ht1 := Dv.keep_cell hb1 ht
  have hb2 := hba.trans (hb1.mono hba.size)
  clear hba hb1 KL c0 d1 d2 ht
  go_wp2
  go_quiet (fail)
  go_wp2
  go_ret
  exact ⟨rfl, below_drewN hb2 _⟩
end
end Go.Proofs.YtcdnkmjjedbbpaaGreatDoor
