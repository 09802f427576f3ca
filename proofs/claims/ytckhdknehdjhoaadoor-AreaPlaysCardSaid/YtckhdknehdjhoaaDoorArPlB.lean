/-
  THE CONTRACTS OF area.Blank, of New where there is no area, of device.New where there is no device.
-/
import Derived.Test.YtckhdknehdjhoaaDoorArPlA
namespace Go.Proofs.YtckhdknehdjhoaaDoor
open Go.RowKit
theorem all_zero {l : List UInt8} (h : ∀ x ∈ l, (x == 0) = true) : l = List.replicate l.length 0 :=
  List.eq_replicate_iff.2 ⟨rfl, fun b hb => by simpa using h b hb⟩
theorem drop_nil {p : UInt8 → Bool} : ∀ {l : List UInt8}, l.dropWhile p = [] → ∀ x ∈ l, p x = true
  | [], _ => fun x hx => by cases hx
  | y :: l, h => fun x hx => by
    rw [List.dropWhile_cons] at h
    cases hy : p y with
    | false => rw [hy] at h; cases h
    | true =>
      rw [hy, if_pos rfl] at h
      rcases List.mem_cons.1 hx with rfl | hx
      · exact hy
      · exact drop_nil h x hx
theorem nil_drop {p : UInt8 → Bool} : ∀ {l : List UInt8}, (∀ x ∈ l, p x = true) → l.dropWhile p = []
  | [], _ => rfl
  | y :: l, h => by
    rw [List.dropWhile_cons, h y List.mem_cons_self, if_pos rfl]
    exact nil_drop fun x hx => h x (List.mem_cons_of_mem _ hx)
theorem trim_yes (n : Nat) : Lib.trimB (List.replicate n 0) 0 = [] := by
  unfold Lib.trimB Lib.trimLeftB Lib.trimRightB
  have h : ∀ k : Nat, (List.replicate k (0 : UInt8)).dropWhile (· == 0) = [] := fun k => by
    refine nil_drop fun x hx => ?_
    rw [List.eq_of_mem_replicate hx]; rfl
  rw [List.reverse_replicate, h]; rfl
theorem trim_no {l : List UInt8} (h : Lib.trimB l 0 = []) : l = List.replicate l.length 0 := by
  unfold Lib.trimB Lib.trimLeftB Lib.trimRightB at h
  have h := drop_nil h
  have h1 : l.reverse.dropWhile (· == 0) = [] := by
    cases hd : l.reverse.dropWhile (· == 0) with
    | nil => rfl
    | cons x r =>
      have hx := h x (by rw [hd]; simp)
      have h3 := List.head?_dropWhile_not (fun a : UInt8 => a == 0) l.reverse
      rw [hd] at h3
      simp at h3
      simp at hx
      exact absurd hx h3
  have h1 := drop_nil h1
  exact all_zero fun x hx => h1 x (List.mem_reverse.2 hx)
theorem zero_ba : (⟨#[0]⟩ : ByteArray) = ⟨#[(0 : UInt8)]⟩ := rfl
section
variable {W : World} {A D P L M n k first count : Nat} {u lf : Int} {las : List (List UInt8)} {f : Int → Option (List UInt8)} {N : List UInt8}
theorem gets (h : DevAt W D P L M n k false u false lf las f) (ha : ArAt W A D first count) (hf : okf n f) (hn : first + count ≤ n ∧ n ≤ 20) (hB : BytesOf N las f first count) :
    Calls Tryd.prog 12 #[.pointer (some ⟨A, 0, none⟩), .int .i64 0, .int .i64 ((64 * count : Nat) : Int)] W fun e w' => e = .returned (.tuple #[.string (txt N), .int .i64 0]) ∧ Below W.heap.size W w' := by
  refine (get_any h ha (fun z l hz => (hf z l hz).2.2) ⟨hn.1, by have := hn.2; omega⟩ 0 (64 * count) (by omega) (Nat.le_refl _)).mono ?_
  rintro e w' ⟨rfl, hb⟩
  rw [getL_ring hB ha.c.1 _ _ _ (Nat.le_refl _), ring_all hB.len]
  exact ⟨rfl, hb⟩
set_option maxHeartbeats 1000000 in
theorem blank_area (h : DevAt W D P L M n k false u false lf las f) (ha : ArAt W A D first count) (hf : okf n f) (hn : first + count ≤ n ∧ n ≤ 20) (hB : BytesOf N las f first count) :
    Calls Tryd.prog 9 #[.pointer (some ⟨A, 0, none⟩)] W fun e w' => e = .returned (.bool (decide (N = List.replicate (64 * count) 0))) ∧ Below W.heap.size W w' := by
  have KL := Lib.hid (alen_any ha)
  have KG := Lib.hid (gets h ha hf hn hB)
  have hlen := hB.len
  have hc := ha.c
  have hsz : (txt N).size ≤ 9223372036854775807 := by rw [txt_size, hlen]; omega
  have KT := Lib.hid (fun W1 => Tryd.strings_Trim_one (txt N) 0 (by decide) W1 hsz)
  have hd : (txt N).data.toList = N := rfl
  rw [hd] at KT
  clear h ha hf hB hd hsz
  generalize txt N = T at KG KT
  by_cases he : N = List.replicate (64 * count) 0
  · have HD := Lib.hid (decide_eq_true he)
    have ht : Lib.trimB N 0 = [] := by rw [he]; exact trim_yes _
    rw [ht] at KT
    clear ht he hlen
    go_enter Tryd.func9, Tryd.ntmps9
    go_wp2_with fail
    refine KL.out.mono ?_
    rintro e w1 ⟨rfl, rfl⟩
    go_wp2_with fail
    refine KG.out.mono ?_
    rintro e w2 ⟨rfl, hb⟩
    go_wp2_with fail
    refine (KT.out _).mono ?_
    rintro e w3 ⟨rfl, hw⟩
    have hb3 : Below w1.heap.size w1 w3 := by
      rcases hw with rfl | rfl
      · exact hb
      · exact hb.drew
    clear hw hb KL KG KT
    go_wp2
    go_ret
    exact ⟨ret_bool HD.out.symm, hb3⟩
  · have HD := Lib.hid (decide_eq_false he)
    have ht : (⟨(Lib.trimB N 0).toArray⟩ : ByteArray).toList.isEmpty = false := by
      rw [ByteArray.toList_eq, List.isEmpty_eq_false_iff]
      intro e
      have e2 : Lib.trimB N 0 = [] := e
      have := trim_no e2
      rw [hlen] at this
      exact he this
    generalize (⟨(Lib.trimB N 0).toArray⟩ : ByteArray) = T2 at KT ht
    clear he hlen
    go_enter Tryd.func9, Tryd.ntmps9
    go_wp2_with fail
    refine KL.out.mono ?_
    rintro e w1 ⟨rfl, rfl⟩
    go_wp2_with fail
    refine KG.out.mono ?_
    rintro e w2 ⟨rfl, hb⟩
    go_wp2_with fail
    refine (KT.out _).mono ?_
    rintro e w3 ⟨rfl, hw⟩
    have hb3 : Below w1.heap.size w1 w3 := by
      rcases hw with rfl | rfl
      · exact hb
      · exact hb.drew
    clear hw hb KL KG KT
    go_wp2
    go_ret
    exact ⟨ret_bool HD.out.symm, hb3⟩
theorem sectors_nil (W : World) : Calls Tryd.prog 15 #[.pointer none] W fun e w' => e = .returned (.int .i64 0) ∧ w' = W := by
  go_enter Tryd.func15, Tryd.ntmps15
  go_wp2
  go_ret
  exact ⟨rfl, rfl⟩
/-- Where there is no area: of any device that tells S sectors. -/
theorem anew_no {S : Int} (p : Value) (W : World) (KS : Hid (Calls Tryd.prog 15 #[p] W fun e w' => e = .returned (.int .i64 S) ∧ w' = W)) (hS : 0 ≤ S ∧ S ≤ 4096) (a b : Int) (ha : a ≤ 9223372036854775807) (h : a < 0 ∨ b < 1 ∨ S - a < b) :
    Calls Tryd.prog 7 #[p, .int .i64 a, .int .i64 b] W fun e w' => e = .returned (.pointer none) ∧ w' = W := by
  obtain ⟨s0, s1⟩ := hS
  by_cases a0 : a < 0
  · clear h
    go_enter Tryd.func7, Tryd.ntmps7
    go_wp2
    go_ret
    exact ⟨rfl, rfl⟩
  have a0 : 0 ≤ a := by omega
  by_cases b0 : b < 1
  · clear h
    go_enter Tryd.func7, Tryd.ntmps7
    go_wp2
    go_ret
    exact ⟨rfl, rfl⟩
  have b0 : 1 ≤ b := by omega
  have h : S - a < b := by omega
  go_enter Tryd.func7, Tryd.ntmps7
  go_wp2_with fail
  refine KS.out.mono ?_
  rintro e w1 ⟨rfl, rfl⟩
  go_wp2
  go_ret
  exact ⟨rfl, rfl⟩
theorem dnew_no (s : Int) (W : World) (h : s < 1 ∨ 4096 < s) : Calls Tryd.prog 6 #[.pointer none, .int .i64 s] W fun e w' => e = .returned (.pointer none) ∧ w' = W := by
  by_cases s0 : s < 1
  · clear h
    go_enter Tryd.func6, Tryd.ntmps6
    go_wp2
    go_ret
    exact ⟨rfl, rfl⟩
  have s1 : 4096 < s := by omega
  have s0 : 1 ≤ s := by omega
  clear h
  go_enter Tryd.func6, Tryd.ntmps6
  go_wp2
  go_ret
  exact ⟨rfl, rfl⟩
end
section
variable {w W : World} {B A D P L M n first count c : Nat} {u lf : Int} {k : Nat} {las : List (List UInt8)} {f : Int → Option (List UInt8)} {N : List UInt8} {g : Nat}
theorem ap_all (h : Ap w W B A D P L M n first count c u lf k las f N g) :
    Calls Tryd.prog 12 #[.pointer (some ⟨A, 0, none⟩), .int .i64 0, .int .i64 (64 * (count : Int))] W fun e w' => e = .returned (.tuple #[.string (txt N), .int .i64 0]) ∧ Hid (Ap w w' B A D P L M n first count c u lf k las f N g) := by
  have e64 : ((64 * count : Nat) : Int) = 64 * (count : Int) := by omega
  rw [← e64]
  exact (gets h.d h.a h.fo h.nn h.by').mono fun _ _ hh => ⟨hh.1, h.below hh.2⟩
theorem ap_get2 (h : Ap w W B A D P L M n first count c u lf k las f N g) (at' size : Nat) (h0 : at' ≤ 4611686018427387904) (h1 : size ≤ 64 * count) :
    Calls Tryd.prog 12 #[.pointer (some ⟨A, 0, none⟩), .int .i64 (at' : Int), .int .i64 (size : Int)] W fun e w' => e = .returned (.tuple #[.string (txt (ring N (64 * count) at' size)), .int .i64 0]) ∧ Below W.heap.size W w' := by
  refine (get_any h.d h.a (fun z l hz => (h.fo z l hz).2.2) ⟨h.nn.1, by have := h.nn.2; omega⟩ at' size h0 h1).mono ?_
  rintro e w' ⟨rfl, hb⟩
  rw [getL_ring h.by' h.a.c.1 size at' size (Nat.le_refl _)]
  exact ⟨rfl, hb⟩
theorem ap_blank (bB : Bool) (hb : decide (N = List.replicate (64 * count) 0) = bB) (h : Ap w W B A D P L M n first count c u lf k las f N g) :
    Calls Tryd.prog 9 #[.pointer (some ⟨A, 0, none⟩)] W fun e w' => e = .returned (.bool bB) ∧ Below W.heap.size W w' := by
  rw [← hb]
  exact blank_area h.d h.a h.fo h.nn h.by'
theorem Ap.str (h : Ap w W B A D P L M n first count c u lf k las f N g) : (convert 30 9 (.slice (some ⟨g, 0, none⟩) (64 * count) (64 * count))).run Tryd.prog W = .ok (.string (txt N)) W := by
  have := bytes_str h.row
  rw [h.len] at this
  exact this
theorem ba_beq (a b : ByteArray) : (a == b) = decide (a = b) := by
  rw [Bool.eq_iff_iff, decide_eq_true_iff]
  cases a with | mk a => cases b with | mk b =>
  constructor
  · intro h
    have h2 : (a == b) = true := h
    rw [beq_iff_eq] at h2
    rw [h2]
  · intro h
    injection h with h
    subst h
    show (a == a) = true
    exact beq_self_eq_true a
theorem txt_inj {a b : List UInt8} (h : txt a = txt b) : a = b := by
  have : (txt a).data.toList = (txt b).data.toList := by rw [h]
  exact this
/-- make of so many bytes. -/
theorem make_zero (m : Nat) (hm : m ≤ 100000) (z : Int) (hz : z = (m : Int)) (W : World) :
    (Instr.makeSlice 30 (.int .i64 z) (.int .i64 z)).run Tryd.prog W = .ok (.slice (some ⟨W.heap.size, 0, none⟩) m m) (W.alloc (.cells (Lib.byteCells (List.replicate m 0)).toArray 5)) := by
  subst hz
  obtain ⟨ib, hi, hzz⟩ := Option.map_eq_some_iff.1 infoB
  simp only [Prod.mk.injEq] at hzz
  obtain ⟨hz0, hz1, hz2⟩ := hzz
  have hr := run_make (P := Tryd.prog) W 30 5 ib (.int .u8 0) Tryd.underlying30 hi hz0 .i64 .i64 (m : Int) (m : Int) (by omega) (Int.le_refl _) (by rw [hz2]; omega) (by omega)
  rw [Int.toNat_natCast, hz1] at hr
  rw [hr]
  have e : madeCells (Value.int .u8 0).cells (m * 1) = (Lib.byteCells (List.replicate m 0)).toArray := by
    apply Array.ext'
    rw [Nat.mul_one]
    show (madeCells #[Value.int .u8 0] m).toList = _
    rw [toList_madeCells_one]
    unfold Lib.byteCells
    rw [List.map_replicate]; rfl
  rw [e]
theorem made_row (m : Nat) (hm : m ≤ 100000) (W : World) : RowB (W.alloc (.cells (Lib.byteCells (List.replicate m 0)).toArray 5)) W.heap.size (.slice (some ⟨W.heap.size, 0, none⟩) m m) (List.replicate m 0) := by
  unfold RowB
  have := World.ownsRow_lit (base := W.heap.size) (e := 5) (size := 1) W (Lib.byteCells (List.replicate m 0)).toArray m (Nat.le_refl _) (by unfold maxLen; omega) (by rw [List.size_toArray, Lib.byteCells_length, List.length_replicate, Nat.mul_one])
  rw [List.length_replicate]
  exact this
theorem RowB.blocks {W' : World} {cp : Nat} (h : RowB W B (.slice (some ⟨g, 0, Option.none⟩) N.length cp) N) (e : W'.heap[g]? = W.heap[g]?) : RowB W' B (.slice (some ⟨g, 0, Option.none⟩) N.length cp) N := by
  obtain ⟨h0, h⟩ := h
  refine ⟨h0, ?_⟩
  rcases h with h | ⟨g', cap, cur, hv, hb, hg, r⟩
  · exact .inl h
  · injection hv with e1 _ e3
    injection e1 with e1
    injection e1 with e1 _
    subst e1
    exact .inr ⟨g, cap, cur, by rw [e3], hb, e.trans hg, r⟩
/-- Blocks past the area's, the device's, the bytes' were written. -/
theorem Ap.past {W' : World} {X : Nat} (h : Ap w W B A D P L M n first count c u lf k las f N g) (hb : Below X W W') (hg : g < X) (hX : B ≤ X) : Ap w W' B A D P L M n first count c u lf k las f N g :=
  h.up (hb.mono hX) (h.row.blocks (hb.block g hg)) h.by'
/-- The cells of an act that was copied. -/
structure Xs (W : World) (X : Nat) (z : Aa) : Prop where
  c1 : W.cell? ⟨X, 1, none⟩ = some (.int .i64 z.n)
  c2 : W.cell? ⟨X, 2, none⟩ = some (.int .i64 z.o)
  c3 : W.cell? ⟨X, 3, none⟩ = some (.slice z.da z.dl.length z.dc)
theorem Xs.below {W' : World} {X : Nat} {z : Aa} (h : Xs W X z) (hb : Below W.heap.size W W') : Xs W' X z := ⟨keep_cell hb h.c1, keep_cell hb h.c2, keep_cell hb h.c3⟩
theorem Xs.past {W' : World} {X Y : Nat} {z : Aa} (h : Xs W X z) (hb : Below Y W W') (hX : X < Y) : Xs W' X z :=
  ⟨(World.cell?_of_block (a := ⟨X, 1, none⟩) (hb.block X hX)).trans h.c1, (World.cell?_of_block (a := ⟨X, 2, none⟩) (hb.block X hX)).trans h.c2, (World.cell?_of_block (a := ⟨X, 3, none⟩) (hb.block X hX)).trans h.c3⟩
theorem Xs.store {X G i : Nat} {v : Value} {z : Aa} (h : Xs W X z) (hne : G ≠ X) : Xs (W.setCell ⟨G, i, none⟩ v) X z := by
  have e : ∀ j : Nat, (⟨G, i, none⟩ : Addr) ≠ ⟨X, j, none⟩ := fun j e => hne (by injection e)
  exact ⟨by rw [World.cell?_setCell_other _ _ _ _ (e 1)]; exact h.c1, by rw [World.cell?_setCell_other _ _ _ _ (e 2)]; exact h.c2, by rw [World.cell?_setCell_other _ _ _ _ (e 3)]; exact h.c3⟩
theorem StrsAt.below' {W' : World} {B : Nat} {a : Option Addr} {ss : List ByteArray} (h : StrsAt w a ss) (hb0 : Below w.heap.size w W) (hb : Below B W W') (hB : w.heap.size ≤ B) : StrsAt W' a ss :=
  h.below (hb0.trans (hb.mono hB))
theorem txt_get (t : List UInt8) (k : Nat) (h : k < (txt t).size) : (txt t)[k] = t.getD k 0 := by
  have h2 : k < t.length := by rw [txt_size] at h; exact h
  rw [List.getD_eq_getElem?_getD, List.getElem?_eq_getElem h2]
  show (txt t).data[k] = _
  unfold txt
  simp
end
theorem bytes_new (n first count : Nat) (h : first + count ≤ n) : BytesOf (List.replicate (64 * count) 0) (List.replicate n blank64) (fun _ => none) first count := by
  have hs : ∀ q, q < n → secAt (List.replicate n blank64) (fun _ => none) q = blank64 := fun q hq => by
    show (List.replicate n blank64).getD q blank64 = _
    rw [List.getD_eq_getElem?_getD, List.getElem?_replicate]
    split <;> rfl
  refine ⟨by simp, fun q hq => ?_, fun q hq => ?_⟩
  · unfold byteAt
    rw [hs _ (by omega), List.getD_eq_getElem?_getD, List.getElem?_replicate, if_pos hq]
    have e : blank64 = List.replicate 64 0 := rfl
    rw [e, List.getD_eq_getElem?_getD, List.getElem?_replicate, if_pos (by omega)]
  · rw [hs _ (by omega)]; exact blank64_len
end Go.Proofs.YtckhdknehdjhoaaDoor
