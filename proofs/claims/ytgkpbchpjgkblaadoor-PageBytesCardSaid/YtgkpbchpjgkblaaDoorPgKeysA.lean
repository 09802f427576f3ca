/-
  THE WALK OF page.Keys UP TO THE SORT: all keys, in the pages' order.
-/
import Derived.Test.YtgkpbchpjgkblaaDoorPgSort
import Derived.Test.YtgkpbchpjgkblaaDoorPgLaid
import Derived.Deep.Cut
import Derived.Deep.CutRange
import Derived.Deep.DeepCutAuto
import Derived.Deep.CutBlock
namespace Go.Proofs.YtgkpbchpjgkblaaDoor
open Go.RowKit
/-- Two pages side by side in a row. -/
structure Pg2 (W : World) (b : Nat) (n1 g1 : Int) (a1 : Option Addr) (l1 : List (ByteArray × ByteArray)) (c1 : Nat) (n2 g2 : Int) (a2 : Option Addr) (l2 : List (ByteArray × ByteArray)) (c2 : Nat) : Prop where
  x0 : W.cell? ⟨b, 0, none⟩ = some (.int .i64 n1)
  x1 : W.cell? ⟨b, 1, none⟩ = some (.int .i64 g1)
  x2 : W.cell? ⟨b, 2, none⟩ = some (.slice a1 l1.length c1)
  y0 : W.cell? ⟨b, 3, none⟩ = some (.int .i64 n2)
  y1 : W.cell? ⟨b, 4, none⟩ = some (.int .i64 g2)
  y2 : W.cell? ⟨b, 5, none⟩ = some (.slice a2 l2.length c2)
  cl1 : ClsAt W a1 l1
  cl2 : ClsAt W a2 l2
section
variable {W X : World} {b : Nat} {n1 g1 : Int} {a1 : Option Addr} {l1 : List (ByteArray × ByteArray)} {c1 : Nat} {n2 g2 : Int} {a2 : Option Addr} {l2 : List (ByteArray × ByteArray)} {c2 : Nat}
theorem Pg2.below (h : Pg2 W b n1 g1 a1 l1 c1 n2 g2 a2 l2 c2) (hb : Below W.heap.size W X) : Pg2 X b n1 g1 a1 l1 c1 n2 g2 a2 l2 c2 :=
  ⟨keep_cell hb h.x0, keep_cell hb h.x1, keep_cell hb h.x2, keep_cell hb h.y0, keep_cell hb h.y1, keep_cell hb h.y2, h.cl1.below hb, h.cl2.below hb⟩
end
/-- Keys' row in its loops. -/
structure KyW (w W : World) (v : Value) (ts : List ByteArray) : Prop where
  row : RowS W w.heap.size v ts
  bw : Below w.heap.size w W
theorem KyW.below {w W X : World} {v : Value} {ts : List ByteArray} (h : KyW w W v ts) (hb : Below W.heap.size W X) : KyW w X v ts := ⟨h.row.below hb, h.bw.trans (hb.mono h.bw.size)⟩
theorem KyW.grow {w W X : World} {v v' : Value} {ts ts' : List ByteArray} {o : Obj} (h : KyW w W v ts) (hr : RowS X w.heap.size v' ts') (hg : (W.alloc o).grownBy X v.ownBlock) : KyW w X v' ts' :=
  ⟨hr, (h.bw.alloc h.bw.size o).grown hg (by rw [World.size_alloc]; have := h.bw.size; omega) (fun k hk => (h.row.lt k hk).1)⟩
set_option maxRecDepth 100000 in
set_option maxHeartbeats 4000000 in
theorem keys_any (b cap : Nat) (n1 g1 : Int) (a1 : Option Addr) (l1 : List (ByteArray × ByteArray)) (c1 : Nat) (n2 g2 : Int) (a2 : Option Addr) (l2 : List (ByteArray × ByteArray)) (c2 : Nat) (w : World) (h1 : l1.length ≤ 20) (h2 : l2.length ≤ 20) (h : Pg2 w b n1 g1 a1 l1 c1 n2 g2 a2 l2 c2) :
    Calls Tryd.prog 22 #[.slice (some ⟨b, 0, none⟩) 2 cap] w fun e w' => ∃ a' c', e = .returned (.slice a' (ofB (inAll (lb (keysOf l1 ++ keysOf l2)))).length c') ∧ KeysAt w' a' (ofB (inAll (lb (keysOf l1 ++ keysOf l2)))) ∧ Below w.heap.size w w' := by
  have HP := Lib.hid h
  have K0 : Hid (KyW w w (.slice none 0 0) []) := ⟨RowS.none _ _, Below.refl _ _⟩
  clear h
  go_enter Tryd.func22, Tryd.ntmps22
  go_wp2
  go_loopw [3, 10] (fun s i wr => ∃ (j : Nat) (v : Value) (ts : List ByteArray), j ≤ 2 ∧ i = .int .i64 j ∧ v = s ∧ ts = (if j = 0 then [] else if j = 1 then keysOf l1 else keysOf l1 ++ keysOf l2) ∧ Hid (KyW w wr v ts)) (fun _ i _ => 2 - (intOf i).toNat)
  case atStart => exact ⟨0, _, [], by omega, rfl, rfl, rfl, K0⟩
  case round =>
    obtain ⟨j, v, ts, hj, rfl, rfl, rfl, HK⟩ := hrel
    rename World => wa
    clear K0
    by_cases hj2 : j < 2
    · obtain ⟨no, gn, a, l, c, base, hl20, q0, q1, q2, HCL, HTS⟩ : ∃ (no gn : Int) (a : Option Addr) (l : List (ByteArray × ByteArray)) (c : Nat) (base : List ByteArray), l.length ≤ 20 ∧ wa.cell? ⟨b, j * 3, none⟩ = some (.int .i64 no) ∧ wa.cell? ⟨b, j * 3 + 1, none⟩ = some (.int .i64 gn) ∧ wa.cell? ⟨b, j * 3 + 2, none⟩ = some (.slice a l.length c) ∧ Hid (ClsAt w a l) ∧ Hid ((if j = 0 then [] else if j = 1 then keysOf l1 else keysOf l1 ++ keysOf l2) = base ∧ (if j + 1 = 0 then [] else if j + 1 = 1 then keysOf l1 else keysOf l1 ++ keysOf l2) = base ++ keysOf l ∧ base.length ≤ 20) := by
        have P := HP.out.below HK.out.bw
        have hj01 : j = 0 ∨ j = 1 := by omega
        rcases hj01 with rfl | rfl
        · exact ⟨n1, g1, a1, l1, c1, [], h1, P.x0, P.x1, P.x2, HP.out.cl1, rfl, by simp, by simp⟩
        · exact ⟨n2, g2, a2, l2, c2, keysOf l1, h2, P.y0, P.y1, P.y2, HP.out.cl2, rfl, by simp, by rw [keysOf_len]; exact h1⟩
      obtain ⟨e1, e2, e3⟩ := HTS.out
      rw [e1] at HK
      have HE2 := Lib.hid e2
      have HE3 := Lib.hid e3
      clear e1 e2 e3 HTS HP
      have hji : (j : Int) < 2 := by omega
      have hj0 : (0 : Int) ≤ (j : Int) := by omega
      go_wp2
      go_loopw [3, 17] (fun s i wr => ∃ (k : Nat) (v' : Value), k ≤ l.length ∧ i = .int .i64 k ∧ v' = s ∧ Hid (KyW w wr v' (base ++ (keysOf l).take k))) (fun _ i _ => l.length - (intOf i).toNat)
      case atStart =>
        have hba : Below wa.heap.size wa (wa.alloc (.cells #[.int .i64 no, .int .i64 gn, .slice a l.length c] 24)) := (Below.refl _ _).alloc (Nat.le_refl _) _
        exact ⟨0, _, Nat.zero_le _, rfl, rfl, by rw [List.take_zero, List.append_nil]; exact HK.out.below hba⟩
      case round =>
        obtain ⟨k, v', hk, rfl, rfl, HK2⟩ := hrel
        rename World => wb
        by_cases hlt : k < l.length
        · have hk0 : (0 : Int) ≤ (k : Int) := by omega
          have hk1 : (k : Int) < (l.length : Int) := by omega
          obtain ⟨cb, off, rfl, e1, e2⟩ := (HCL.out.below HK2.out.bw).at hlt
          have HS := Lib.hid (keysOf_succ hlt)
          obtain ⟨x1, hx1⟩ : ∃ s, s = (l.getD k noCl).1 := ⟨_, rfl⟩
          obtain ⟨x2, hx2⟩ : ∃ s, s = (l.getD k noCl).2 := ⟨_, rfl⟩
          rw [← hx1] at e1 HS
          rw [← hx2] at e2
          clear hx1 hx2
          have hbb : Below wb.heap.size wb (wb.alloc (.cells #[.string x1, .string x2] 44)) := (Below.refl _ _).alloc (Nat.le_refl _) _
          have R2 := Lib.hid (HK2.out.below hbb)
          have hB2 : w.heap.size ≤ (wb.alloc (.cells #[.string x1, .string x2] 44)).heap.size := R2.out.bw.size
          have HBB := Lib.hid hB2
          have hlen : (base ++ (keysOf l).take k).length ≤ 100 := by
            have := HE3.out
            rw [List.length_append, List.length_take]; omega
          have HL := Lib.hid hlen
          have c0 : (wb.alloc (.cells #[.string x1, .string x2] 44)).cell? ⟨wb.heap.size, 0, none⟩ = some (.string x1) := new_cell rfl rfl
          clear hbb hB2 hlen HK2 HCL
          go_upto_region 8 with fail
          generalize wb.alloc (.cells #[.string x1, .string x2] 44) = W0 at *
          clear e1 e2
          go_wp2_with (at_builtin; refine append_str rfl _ _ rfl w.heap.size v' (base ++ (keysOf l).take k) x1 rfl R2.out.row rfl HL.out HBB.out ?_)
          intro v8 w8 r8 hg8 ho8
          have K8 := Lib.hid (R2.out.grow r8 hg8)
          clear r8 hg8 ho8 R2
          go_wp2
          go_roundw
          case rel => exact ⟨k + 1, v8, hlt, by go_num, rfl, by first | (rw [HS.out, ← List.append_assoc]; exact K8.out) | (rw [HS.out]; exact K8.out)⟩
          case measure => simp [intOf]; omega
        · obtain rfl : k = l.length := by omega
          go_wp2
          go_roundw
          case rel => exact ⟨j + 1, v', _, by omega, by go_num, rfl, HE2.out.symm, by rw [← keysOf_len l, List.take_length] at HK2; exact HK2⟩
          case measure => simp [intOf]; omega
    · obtain rfl : j = 2 := by omega
      have HK3 : Hid (KyW w wa v (keysOf l1 ++ keysOf l2)) := HK
      have hl : (keysOf l1 ++ keysOf l2).length ≤ 100 := by rw [List.length_append, keysOf_len, keysOf_len]; omega
      have S1 := Lib.hid (sort_row HK3.out.row hl)
      have hp : (ofB ((lb (keysOf l1 ++ keysOf l2)).mergeSort fun x y => decide (x ≤ y))).length ≤ 100 := by rw [ofB_len, List.length_mergeSort, lb_len]; exact hl
      have HC := Lib.hid (compact_sort (lb (keysOf l1 ++ keysOf l2)))
      clear HK hl HP
      obtain ⟨ks, hks⟩ : ∃ x, x = keysOf l1 ++ keysOf l2 := ⟨_, rfl⟩
      rw [← hks] at HK3 S1 hp HC
      have HKS := Lib.hid hks
      clear hks
      go_wp2_with fail
      refine S1.out.mono ?_
      rintro e w5 ⟨rfl, hr5, hg5⟩
      have hb5 : Below w.heap.size w w5 := HK3.out.bw.grown hg5 HK3.out.bw.size (fun k hk => (HK3.out.row.lt k hk).1)
      have S2 := compact_row hr5 hp
      rw [lb_ofB, HC.out] at S2
      have S2 := Lib.hid S2
      have HB5 := Lib.hid hb5
      have HLT := Lib.hid (fun k (hk : v.ownBlock = some k) => (World.ownsRow.lt hr5 k hk).1)
      clear S1 HK3 hb5 hr5 hg5 HC hp
      go_wp2_with fail
      refine S2.out.mono ?_
      rintro e w6 ⟨a', c', rfl, hk6, hg6⟩
      have hb6 : Below w.heap.size w w6 := HB5.out.grown hg6 HB5.out.size (fun k hk => HLT.out k hk)
      have HB6 := Lib.hid hb6
      have HK6 := Lib.hid hk6
      clear hb6 hk6 hg6 S2 HB5 HLT
      go_wp2
      go_ret
      have hks := HKS.out
      subst hks
      exact ⟨a', c', rfl, HK6.out, HB6.out⟩
end Go.Proofs.YtgkpbchpjgkblaaDoor
