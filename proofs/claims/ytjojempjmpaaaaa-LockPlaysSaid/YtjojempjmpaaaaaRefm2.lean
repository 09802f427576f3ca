/-
  ref14: with, without.
  ref14: with at a nil slice.
  ref14: hold.
  ref14: with over a row.
-/
import Derived.Test.YtjojempjmpaaaaaRefm1
namespace Go.Proofs.Ytjojempjmpaaaaa
open Go.RowKit
section
variable {W : World}
/-- What with and without answer. -/
def WcP (W : World) (l : List Wc) (e : Ending) (W' : World) : Prop := ∃ v, e = .returned v ∧ RowW W' W.heap.size v l ∧ Below W.heap.size W W'
theorem rowW_below {X : World} {B : Nat} {v : Value} {l : List Wc} (h : RowW W B v l) (hb : Below W.heap.size W X) : RowW X B v l := ownsRow_of h (fun g e => hb.block g (World.ownsRow.lt h g e).2)
set_option maxRecDepth 100000 in
set_option maxHeartbeats 2000000 in
theorem without14_some (b off : Nat) (l : List Wc) (c p : Nat) (hl : l.length ≤ 100000) (hc : l.length ≤ c) (hc2 : c ≤ maxLen) (hp : p < l.length) (hm : WcsAt W (some ⟨b, off, none⟩) l) :
    Calls Try.prog 52 #[.slice (some ⟨b, off, none⟩) l.length c, .int .i64 (p : Int)] W (WcP W (l.take p ++ l.drop (p + 1))) := by
  have H0 := Lib.hid (hm.take p)
  have HD := Lib.hid (hm.drop (p + 1))
  have HM := Lib.hid hm
  have hp1 : (p : Int) < (l.length : Int) := by omega
  have hli : (l.length : Int) ≤ 100000 := by omega
  have hci : (l.length : Int) ≤ (c : Int) := by omega
  have hci2 : (c : Int) ≤ 9223372036854775807 := by unfold maxLen at hc2; omega
  have e1 : (l.take p).length = p := by rw [List.length_take]; omega
  have e2 : (l.drop (p + 1)).length = l.length - (p + 1) := List.length_drop
  clear hm
  go_enter Try.func52, Try.ntmps52
  have S1 : Hid ((Value.slice (some ⟨b, off, none⟩) p c = .slice none 0 0 ∧ l.take p = []) ∨ ∃ b' off' c', Value.slice (some ⟨b, off, none⟩) p c = .slice (some ⟨b', off', none⟩) (l.take p).length c' ∧ WcsAt W (some ⟨b', off', none⟩) (l.take p)) := .inr ⟨b, off, c, by rw [e1], H0.out⟩
  go_wp2_with (at_builtin; refine append_w rfl _ _ rfl W.heap.size (.slice none 0 0) (.slice (some ⟨b, off, none⟩) p c) [] (l.take p) rfl (World.ownsRow_nil _ _ _ _) rfl S1.out (by simp; omega) (Nat.le_refl _) ?_)
  intro v1 w1 hr1 hg1 ho1
  have hr1 : RowW w1 W.heap.size v1 (l.take p) := hr1
  have hb1 : Below W.heap.size W w1 := ⟨hg1.os, hg1.tape, hg1.output, hg1.size, fun j hj => hg1.block j hj (by simp [Value.ownBlock])⟩
  have HR1 := Lib.hid hr1
  have HB1 := Lib.hid hb1
  have hs1 : W.heap.size ≤ w1.heap.size := hb1.size
  have HD1 := Lib.hid (HD.out.below hb1)
  have hpp : (p : Int) + 1 ≤ (l.length : Int) := by omega
  have hlen : (l.take p).length + (l.drop (p + 1)).length ≤ 1000000 := by rw [e1, e2]; omega
  clear hr1 hg1 ho1 hb1 S1
  clear hc2 hl
  by_cases hcp : c = p + 1
  · have hlp : l.length = p + 1 := by omega
    subst c
    skip
    have S2 : Hid ((Value.slice (some ⟨b, off, none⟩) 0 0 = .slice none 0 0 ∧ l.drop (p + 1) = []) ∨ ∃ b' off' c', Value.slice (some ⟨b, off, none⟩) 0 0 = .slice (some ⟨b', off', none⟩) (l.drop (p + 1)).length c' ∧ WcsAt w1 (some ⟨b', off', none⟩) (l.drop (p + 1))) := .inr ⟨b, off, 0, by rw [e2]; congr 1; omega, .inl (List.length_eq_zero_iff.1 (by rw [e2]; omega))⟩
    go_wp2_with (at_builtin; refine append_w rfl _ _ rfl W.heap.size v1 (.slice (some ⟨b, off, none⟩) 0 0) (l.take p) (l.drop (p + 1)) rfl HR1.out rfl S2.out hlen hs1 ?_)
    intro v2 w2 hr2 hg2 ho2
    have HR2 := Lib.hid hr2
    have HB2 := Lib.hid (HB1.out.grown hg2 hs1 (fun g e => (World.ownsRow.lt HR1.out g e).1))
    clear hr2 hg2 ho2 S2
    go_wp2
    go_ret
    exact ⟨_, rfl, HR2.out, HB2.out⟩
  · skip
    have S2 : Hid ((Value.slice (some ⟨b, off + (p + 1) * 3, none⟩) (l.length - (p + 1)) (c - (p + 1)) = .slice none 0 0 ∧ l.drop (p + 1) = []) ∨ ∃ b' off' c', Value.slice (some ⟨b, off + (p + 1) * 3, none⟩) (l.length - (p + 1)) (c - (p + 1)) = .slice (some ⟨b', off', none⟩) (l.drop (p + 1)).length c' ∧ WcsAt w1 (some ⟨b', off', none⟩) (l.drop (p + 1))) := .inr ⟨b, off + (p + 1) * 3, c - (p + 1), by rw [e2], HD1.out⟩
    go_wp2_with (at_builtin; refine append_w rfl _ _ rfl W.heap.size v1 (.slice (some ⟨b, off + (p + 1) * 3, none⟩) (l.length - (p + 1)) (c - (p + 1))) (l.take p) (l.drop (p + 1)) rfl HR1.out rfl S2.out hlen hs1 ?_)
    intro v2 w2 hr2 hg2 ho2
    have HR2 := Lib.hid hr2
    have HB2 := Lib.hid (HB1.out.grown hg2 hs1 (fun g e => (World.ownsRow.lt HR1.out g e).1))
    clear hr2 hg2 ho2 S2
    go_wp2
    go_ret
    exact ⟨_, rfl, HR2.out, HB2.out⟩
set_option maxRecDepth 100000 in
set_option maxHeartbeats 2000000 in
theorem with14_some (b off : Nat) (l : List Wc) (c p : Nat) (x : Wc) (hl : l.length ≤ 100000) (hc : l.length ≤ c) (hc2 : c ≤ maxLen) (hp : p ≤ l.length) (hm : WcsAt W (some ⟨b, off, none⟩) l) :
    Calls Try.prog 48 #[.slice (some ⟨b, off, none⟩) l.length c, .int .i64 (p : Int), .agg #[.int .i64 x.ow, .string x.k, .bool x.wr]] W (WcP W (l.take p ++ x :: l.drop p)) := by
  have hba : Below W.heap.size W (W.alloc (.cells #[.int .i64 x.ow, .string x.k, .bool x.wr] 67)) := (Below.refl _ _).alloc (Nat.le_refl _) _
  have x0 : (W.alloc (.cells #[.int .i64 x.ow, .string x.k, .bool x.wr] 67)).cell? ⟨W.heap.size, 0, none⟩ = some (.int .i64 x.ow) := new_cell rfl rfl
  have x1 : (W.alloc (.cells #[.int .i64 x.ow, .string x.k, .bool x.wr] 67)).cell? ⟨W.heap.size, 1, none⟩ = some (.string x.k) := new_cell rfl rfl
  have x2 : (W.alloc (.cells #[.int .i64 x.ow, .string x.k, .bool x.wr] 67)).cell? ⟨W.heap.size, 2, none⟩ = some (.bool x.wr) := new_cell rfl rfl
  have hY := hm.below hba
  have HBA := Lib.hid hba
  have hp1 : (p : Int) ≤ (l.length : Int) := by omega
  have hli : (l.length : Int) ≤ 100000 := by omega
  have hci : (l.length : Int) ≤ (c : Int) := by omega
  have hci2 : (c : Int) ≤ 9223372036854775807 := by unfold maxLen at hc2; omega
  have e1 : (l.take p).length = p := by rw [List.length_take]; omega
  have e2 : (l.drop p).length = l.length - p := List.length_drop
  have HXF : Hid (∀ X, Below (W.alloc (.cells #[.int .i64 x.ow, .string x.k, .bool x.wr] 67)).heap.size (W.alloc (.cells #[.int .i64 x.ow, .string x.k, .bool x.wr] 67)) X → X.cell? ⟨W.heap.size, 0, none⟩ = some (.int .i64 x.ow) ∧ X.cell? ⟨W.heap.size, 1, none⟩ = some (.string x.k) ∧ X.cell? ⟨W.heap.size, 2, none⟩ = some (.bool x.wr)) := fun X hX => ⟨keep_cell hX x0, keep_cell hX x1, keep_cell hX x2⟩
  clear hm hba x0 x1 x2
  go_enter Try.func48, Try.ntmps48
  go_upto_region 1 with fail
  generalize W.alloc (.cells #[.int .i64 x.ow, .string x.k, .bool x.wr] 67) = Y at *
  have H0 := Lib.hid (hY.take p)
  have HM := Lib.hid hY
  have hsY : W.heap.size ≤ Y.heap.size := HBA.out.size
  have S1 : Hid ((Value.slice (some ⟨b, off, none⟩) p c = .slice none 0 0 ∧ l.take p = []) ∨ ∃ b' off' c', Value.slice (some ⟨b, off, none⟩) p c = .slice (some ⟨b', off', none⟩) (l.take p).length c' ∧ WcsAt Y (some ⟨b', off', none⟩) (l.take p)) := .inr ⟨b, off, c, by rw [e1], H0.out⟩
  clear hY
  go_wp2_with (at_builtin; refine append_w rfl _ _ rfl Y.heap.size (.slice none 0 0) (.slice (some ⟨b, off, none⟩) p c) [] (l.take p) rfl (World.ownsRow_nil _ _ _ _) rfl S1.out (by simp; omega) (Nat.le_refl _) ?_)
  intro v1 w1 hr1 hg1 ho1
  have hr1 : RowW w1 Y.heap.size v1 (l.take p) := hr1
  have hb1 : Below Y.heap.size Y w1 := ⟨hg1.os, hg1.tape, hg1.output, hg1.size, fun j hj => hg1.block j hj (by simp [Value.ownBlock])⟩
  have HB1 := Lib.hid hb1
  obtain ⟨x0, x1, x2⟩ := HXF.out w1 hb1
  have hb2 : Below w1.heap.size w1 (w1.alloc (.cells #[.int .i64 x.ow, .string x.k, .bool x.wr] 67)) := (Below.refl _ _).alloc (Nat.le_refl _) _
  have HR2 := Lib.hid (rowW_below hr1 hb2)
  have HB2 := Lib.hid (hb1.trans (hb2.mono hb1.size))
  have hs2 : Y.heap.size ≤ (w1.alloc (.cells #[.int .i64 x.ow, .string x.k, .bool x.wr] 67)).heap.size := HB2.out.size
  have S2 : Hid ((Value.slice (some ⟨w1.heap.size, 0, none⟩) 1 1 = .slice none 0 0 ∧ [x] = []) ∨ ∃ b' off' c', Value.slice (some ⟨w1.heap.size, 0, none⟩) 1 1 = .slice (some ⟨b', off', none⟩) [x].length c' ∧ WcsAt (w1.alloc (.cells #[.int .i64 x.ow, .string x.k, .bool x.wr] 67)) (some ⟨b', off', none⟩) [x]) := .inr ⟨w1.heap.size, 0, 1, rfl, .inr ⟨w1.heap.size, 0, rfl, fun i hi => by
    have hi : i = 0 := by simpa using hi
    subst hi
    exact ⟨new_cell rfl rfl, new_cell rfl rfl, new_cell rfl rfl⟩⟩⟩
  have hlen2 : (l.take p).length + [x].length ≤ 1000000 := by rw [e1]; simp; omega
  clear hr1 hg1 ho1 hb1 hb2 S1 H0
  go_wp2_with (at_builtin; refine append_w rfl _ _ rfl Y.heap.size v1 (.slice (some ⟨w1.heap.size, 0, none⟩) 1 1) (l.take p) [x] rfl HR2.out rfl S2.out hlen2 hs2 ?_)
  intro v3 w3 hr3 hg3 ho3
  have HR3 := Lib.hid hr3
  have HB3 := Lib.hid (HB2.out.grown hg3 hs2 (fun g e => (World.ownsRow.lt HR2.out g e).1))
  have HD := Lib.hid ((HM.out.below HB3.out).drop p)
  have hs3 : Y.heap.size ≤ w3.heap.size := HB3.out.size
  have hlen3 : (l.take p ++ [x]).length + (l.drop p).length ≤ 1000000 := by rw [List.length_append, e1, e2]; simp; omega
  clear hr3 hg3 ho3 S2 HR2 HB2 x0 x1 x2
  clear hc2 hl
  by_cases hcp : c = p
  · subst c
    have S3 : Hid ((Value.slice (some ⟨b, off, none⟩) 0 0 = .slice none 0 0 ∧ l.drop (p) = []) ∨ ∃ b' off' c', Value.slice (some ⟨b, off, none⟩) 0 0 = .slice (some ⟨b', off', none⟩) (l.drop (p)).length c' ∧ WcsAt w3 (some ⟨b', off', none⟩) (l.drop (p))) := .inr ⟨b, off, 0, by rw [e2]; congr 1; omega, .inl (List.length_eq_zero_iff.1 (by rw [e2]; omega))⟩
    go_wp2_with (at_builtin; refine append_w rfl _ _ rfl Y.heap.size v3 (.slice (some ⟨b, off, none⟩) 0 0) (l.take p ++ [x]) (l.drop p) rfl HR3.out rfl S3.out hlen3 hs3 ?_)
    intro v4 w4 hr4 hg4 ho4
    have hr4 : RowW w4 Y.heap.size v4 (l.take p ++ x :: l.drop p) := by simpa using hr4
    have HR4 : Hid (RowW w4 W.heap.size v4 (l.take p ++ x :: l.drop p)) := ⟨hr4.1, hr4.2.imp id fun ⟨g, cap, cur, q1, q2, q3⟩ => ⟨g, cap, cur, q1, Nat.le_trans hsY q2, q3⟩⟩
    have HB4 := Lib.hid (HBA.out.trans ((HB3.out.grown hg4 hs3 (fun g e => (World.ownsRow.lt HR3.out g e).1)).mono hsY))
    clear hr4 hg4 ho4 S3
    go_wp2
    go_ret
    exact ⟨_, rfl, HR4.out, HB4.out⟩
  · skip
    have S3 : Hid ((Value.slice (some ⟨b, off + p * 3, none⟩) (l.length - (p)) (c - p) = .slice none 0 0 ∧ l.drop (p) = []) ∨ ∃ b' off' c', Value.slice (some ⟨b, off + p * 3, none⟩) (l.length - (p)) (c - p) = .slice (some ⟨b', off', none⟩) (l.drop (p)).length c' ∧ WcsAt w3 (some ⟨b', off', none⟩) (l.drop (p))) := .inr ⟨b, off + p * 3, c - p, by rw [e2], HD.out⟩
    go_wp2_with (at_builtin; refine append_w rfl _ _ rfl Y.heap.size v3 (.slice (some ⟨b, off + p * 3, none⟩) (l.length - p) (c - p)) (l.take p ++ [x]) (l.drop p) rfl HR3.out rfl S3.out hlen3 hs3 ?_)
    intro v4 w4 hr4 hg4 ho4
    have hr4 : RowW w4 Y.heap.size v4 (l.take p ++ x :: l.drop p) := by simpa using hr4
    have HR4 : Hid (RowW w4 W.heap.size v4 (l.take p ++ x :: l.drop p)) := ⟨hr4.1, hr4.2.imp id fun ⟨g, cap, cur, q1, q2, q3⟩ => ⟨g, cap, cur, q1, Nat.le_trans hsY q2, q3⟩⟩
    have HB4 := Lib.hid (HBA.out.trans ((HB3.out.grown hg4 hs3 (fun g e => (World.ownsRow.lt HR3.out g e).1)).mono hsY))
    clear hr4 hg4 ho4 S3
    go_wp2
    go_ret
    exact ⟨_, rfl, HR4.out, HB4.out⟩
end
end Go.Proofs.Ytjojempjmpaaaaa

namespace Go.Proofs.Ytjojempjmpaaaaa
open Go.RowKit
section
variable {W : World}
set_option maxRecDepth 100000 in
set_option maxHeartbeats 2000000 in
theorem with14_nil (x : Wc) :
    Calls Try.prog 48 #[.slice none 0 0, .int .i64 0, .agg #[.int .i64 x.ow, .string x.k, .bool x.wr]] W (WcP W [x]) := by
  have hba : Below W.heap.size W (W.alloc (.cells #[.int .i64 x.ow, .string x.k, .bool x.wr] 67)) := (Below.refl _ _).alloc (Nat.le_refl _) _
  have x0 : (W.alloc (.cells #[.int .i64 x.ow, .string x.k, .bool x.wr] 67)).cell? ⟨W.heap.size, 0, none⟩ = some (.int .i64 x.ow) := new_cell rfl rfl
  have x1 : (W.alloc (.cells #[.int .i64 x.ow, .string x.k, .bool x.wr] 67)).cell? ⟨W.heap.size, 1, none⟩ = some (.string x.k) := new_cell rfl rfl
  have x2 : (W.alloc (.cells #[.int .i64 x.ow, .string x.k, .bool x.wr] 67)).cell? ⟨W.heap.size, 2, none⟩ = some (.bool x.wr) := new_cell rfl rfl
  have HBA := Lib.hid hba
  have HXF : Hid (∀ X, Below (W.alloc (.cells #[.int .i64 x.ow, .string x.k, .bool x.wr] 67)).heap.size (W.alloc (.cells #[.int .i64 x.ow, .string x.k, .bool x.wr] 67)) X → X.cell? ⟨W.heap.size, 0, none⟩ = some (.int .i64 x.ow) ∧ X.cell? ⟨W.heap.size, 1, none⟩ = some (.string x.k) ∧ X.cell? ⟨W.heap.size, 2, none⟩ = some (.bool x.wr)) := fun X hX => ⟨keep_cell hX x0, keep_cell hX x1, keep_cell hX x2⟩
  clear hba x0 x1 x2
  go_enter Try.func48, Try.ntmps48
  go_upto_region 1 with fail
  generalize W.alloc (.cells #[.int .i64 x.ow, .string x.k, .bool x.wr] 67) = Y at *
  have hsY : W.heap.size ≤ Y.heap.size := HBA.out.size
  go_wp2_with (at_builtin; refine append_w rfl _ _ rfl Y.heap.size (.slice none 0 0) (.slice none 0 0) [] [] rfl (World.ownsRow_nil _ _ _ _) rfl (.inl ⟨rfl, rfl⟩) (by simp) (Nat.le_refl _) ?_)
  intro v1 w1 hr1 hg1 ho1
  have hr1 : RowW w1 Y.heap.size v1 [] := hr1
  have hb1 : Below Y.heap.size Y w1 := ⟨hg1.os, hg1.tape, hg1.output, hg1.size, fun j hj => hg1.block j hj (by simp [Value.ownBlock])⟩
  have HB1 := Lib.hid hb1
  obtain ⟨x0, x1, x2⟩ := HXF.out w1 hb1
  have hb2 : Below w1.heap.size w1 (w1.alloc (.cells #[.int .i64 x.ow, .string x.k, .bool x.wr] 67)) := (Below.refl _ _).alloc (Nat.le_refl _) _
  have HR2 := Lib.hid (rowW_below hr1 hb2)
  have HB2 := Lib.hid (hb1.trans (hb2.mono hb1.size))
  have hs2 : Y.heap.size ≤ (w1.alloc (.cells #[.int .i64 x.ow, .string x.k, .bool x.wr] 67)).heap.size := HB2.out.size
  have S2 : Hid ((Value.slice (some ⟨w1.heap.size, 0, none⟩) 1 1 = .slice none 0 0 ∧ [x] = []) ∨ ∃ b' off' c', Value.slice (some ⟨w1.heap.size, 0, none⟩) 1 1 = .slice (some ⟨b', off', none⟩) [x].length c' ∧ WcsAt (w1.alloc (.cells #[.int .i64 x.ow, .string x.k, .bool x.wr] 67)) (some ⟨b', off', none⟩) [x]) := .inr ⟨w1.heap.size, 0, 1, rfl, .inr ⟨w1.heap.size, 0, rfl, fun i hi => by
    have hi : i = 0 := by simpa using hi
    subst hi
    exact ⟨new_cell rfl rfl, new_cell rfl rfl, new_cell rfl rfl⟩⟩⟩
  clear hr1 hg1 ho1 hb1 hb2
  go_wp2_with (at_builtin; refine append_w rfl _ _ rfl Y.heap.size v1 (.slice (some ⟨w1.heap.size, 0, none⟩) 1 1) [] [x] rfl HR2.out rfl S2.out (by simp) hs2 ?_)
  intro v3 w3 hr3 hg3 ho3
  have HR3 := Lib.hid hr3
  have HB3 := Lib.hid (HB2.out.grown hg3 hs2 (fun g e => (World.ownsRow.lt HR2.out g e).1))
  have hs3 : Y.heap.size ≤ w3.heap.size := HB3.out.size
  clear hr3 hg3 ho3 S2 HR2 HB2 x0 x1 x2
  go_wp2_with (at_builtin; refine append_w rfl _ _ rfl Y.heap.size v3 (.slice none 0 0) [x] [] rfl HR3.out rfl (.inl ⟨rfl, rfl⟩) (by simp) hs3 ?_)
  intro v4 w4 hr4 hg4 ho4
  have hr4 : RowW w4 Y.heap.size v4 [x] := by simpa using hr4
  have HR4 : Hid (RowW w4 W.heap.size v4 [x]) := ⟨hr4.1, hr4.2.imp id fun ⟨g, cap, cur, q1, q2, q3⟩ => ⟨g, cap, cur, q1, Nat.le_trans hsY q2, q3⟩⟩
  have HB4 := Lib.hid (HBA.out.trans ((HB3.out.grown hg4 hs3 (fun g e => (World.ownsRow.lt HR3.out g e).1)).mono hsY))
  clear hr4 hg4 ho4
  go_wp2
  go_ret
  exact ⟨_, rfl, HR4.out, HB4.out⟩
end
end Go.Proofs.Ytjojempjmpaaaaa

namespace Go.Proofs.Ytjojempjmpaaaaa
open Go.RowKit
theorem rowW_set {X : World} {B : Nat} {v : Value} {l : List Wc} (h : RowW X B v l) (p : Addr) (u : Value) (hp : p.block < B) : RowW (X.setCell p u) B v l :=
  ownsRow_of h (fun g e => Below.heap_setCell _ _ _ _ (by have := (World.ownsRow.lt h g e).1; omega))
/-- A table, a claim and an answer in three blocks of a call's own. -/
structure TH (X : World) (N : Nat) (vh vl : Value) (c : Wc) : Prop where
  t0 : X.cell? ⟨N, 0, none⟩ = some vh
  t1 : X.cell? ⟨N, 1, none⟩ = some vl
  c0 : X.cell? ⟨N + 1, 0, none⟩ = some (.int .i64 c.ow)
  c1 : X.cell? ⟨N + 1, 1, none⟩ = some (.string c.k)
  c2 : X.cell? ⟨N + 1, 2, none⟩ = some (.bool c.wr)
  r0 : X.cell? ⟨N + 1 + 1, 0, none⟩ = some (.slice none 0 0)
  r1 : X.cell? ⟨N + 1 + 1, 1, none⟩ = some (.slice none 0 0)
  f0 : ∀ i, X.frozen? ⟨N, i, none⟩ = false
  f2 : ∀ i, X.frozen? ⟨N + 1 + 1, i, none⟩ = false
  sz : N + 1 + 1 < X.heap.size
theorem TH.below {X Y : World} {N : Nat} {vh vl : Value} {c : Wc} (h : TH X N vh vl c) (hb : Below X.heap.size X Y) : TH Y N vh vl c :=
  have s := h.sz
  ⟨keep_cell hb h.t0, keep_cell hb h.t1, keep_cell hb h.c0, keep_cell hb h.c1, keep_cell hb h.c2, keep_cell hb h.r0, keep_cell hb h.r1, fun i => (hb.frozen (by show N < _; omega)).trans (h.f0 i), fun i => (hb.frozen (by show N + 1 + 1 < _; omega)).trans (h.f2 i), Nat.lt_of_lt_of_le s hb.size⟩
theorem th_new (W : World) (vh vl : Value) (c : Wc) : TH (((W.alloc (.cells #[vh, vl] 29)).alloc (.cells #[.int .i64 c.ow, .string c.k, .bool c.wr] 67)).alloc (.cells #[.slice none 0 0, .slice none 0 0] 29)) W.heap.size vh vl c := by
  have s1 : (W.alloc (.cells #[vh, vl] 29)).heap.size = W.heap.size + 1 := World.size_alloc _ _
  have s2 : ((W.alloc (.cells #[vh, vl] 29)).alloc (.cells #[.int .i64 c.ow, .string c.k, .bool c.wr] 67)).heap.size = W.heap.size + 1 + 1 := by rw [World.size_alloc, s1]
  have b2 := (Below.refl (W.alloc (.cells #[vh, vl] 29)).heap.size (W.alloc (.cells #[vh, vl] 29))).alloc (Nat.le_refl _) (.cells #[.int .i64 c.ow, .string c.k, .bool c.wr] 67)
  have b3 := (Below.refl ((W.alloc (.cells #[vh, vl] 29)).alloc (.cells #[.int .i64 c.ow, .string c.k, .bool c.wr] 67)).heap.size _).alloc (Nat.le_refl _) (.cells #[.slice none 0 0, .slice none 0 0] 29)
  refine ⟨keep_cell b3 (keep_cell b2 (new_cell rfl rfl)), keep_cell b3 (keep_cell b2 (new_cell rfl rfl)), keep_cell b3 (new_cell s1.symm rfl), keep_cell b3 (new_cell s1.symm rfl), keep_cell b3 (new_cell s1.symm rfl), new_cell s2.symm rfl, new_cell s2.symm rfl, fun i => ?_, fun i => World.frozen?_alloc_at _ _ _ _ s2.symm, ?_⟩
  · exact (b3.frozen (by rw [s2]; show W.heap.size < _; omega)).trans ((b2.frozen (by rw [s1]; show W.heap.size < _; omega)).trans (World.frozen?_alloc_at _ _ _ _ rfl))
  · rw [World.size_alloc, s2]; omega
section
variable {W : World}
set_option maxRecDepth 100000 in
set_option maxHeartbeats 2000000 in
theorem hold14_new (b off : Nat) (h : List Wc) (cH : Nat) (aL : Option Addr) (l : List Wc) (cL : Nat) (c : Wc) (hl : h.length ≤ 100000) (hc : h.length ≤ cH) (hc2 : cH ≤ maxLen) (hm : WcsAt W (some ⟨b, off, none⟩) h) (hf : findL c.ow c.k h = -1) :
    Calls Try.prog 47 #[tabV (some ⟨b, off, none⟩) h cH aL l cL, .agg #[.int .i64 c.ow, .string c.k, .bool c.wr]] W fun e W' => ∃ v, e = .returned (.agg #[v, .slice aL l.length cL]) ∧ RowW W' W.heap.size v (h ++ [c]) ∧ Below W.heap.size W W' := by
  have HT := Lib.hid (th_new W (.slice (some ⟨b, off, none⟩) h.length cH) (.slice aL l.length cL) c)
  have hb0 : Below W.heap.size W (((W.alloc (.cells #[.slice (some ⟨b, off, none⟩) h.length cH, .slice aL l.length cL] 29)).alloc (.cells #[.int .i64 c.ow, .string c.k, .bool c.wr] 67)).alloc (.cells #[.slice none 0 0, .slice none 0 0] 29)) := (((Below.refl _ _).alloc (Nat.le_refl _) _).alloc (by rw [World.size_alloc]; omega) _).alloc (by rw [World.size_alloc, World.size_alloc]; omega) _
  have HM := Lib.hid (hm.below hb0)
  have HB := Lib.hid hb0
  have hli : (h.length : Int) ≤ 100000 := by omega
  have HF := Lib.hid hf
  clear hm hb0 hf
  unfold tabV
  go_enter Try.func47, Try.ntmps47
  go_upto_region 1 with fail
  generalize (((W.alloc (.cells #[.slice (some ⟨b, off, none⟩) h.length cH, .slice aL l.length cL] 29)).alloc (.cells #[.int .i64 c.ow, .string c.k, .bool c.wr] 67)).alloc (.cells #[.slice none 0 0, .slice none 0 0] 29)) = Y at *
  have t0 := HT.out.t0
  have c0 := HT.out.c0
  have c1 := HT.out.c1
  have c2 := HT.out.c2
  have KF := Lib.hid (find_any (W := Y) (some ⟨b, off, none⟩) h cH c.ow c.k (by omega) HM.out)
  rw [HF.out] at KF
  have KW := Lib.hid (with14_some (W := Y) b off h cH h.length c hl hc hc2 (Nat.le_refl _) HM.out)
  rw [List.take_length, List.drop_length] at KW
  go_wp2_with fail
  refine KF.out.mono ?_
  rintro e w ⟨rfl, rfl⟩
  clear KF
  go_wp2_with fail
  refine KW.out.mono ?_
  rintro e w1 ⟨v, rfl, hr, hb⟩
  clear KW t0 c0 c1 c2
  obtain ⟨a', c', hv, -⟩ := hr.at
  generalize (h ++ [c]).length = nv at hv
  subst hv
  have HT1 := HT.out.below hb
  have hNs := HT.out.sz
  have x1 := HT1.t1
  have f0 := HT1.f0
  have f2 : ∀ i, (w1.setCell ⟨W.heap.size, 0, none⟩ (.slice a' nv c')).frozen? ⟨W.heap.size + 1 + 1, i, none⟩ = false := fun i => by rw [World.frozen?_setCell]; exact HT1.f2 i
  have f3 : ∀ i, ((w1.setCell ⟨W.heap.size, 0, none⟩ (.slice a' nv c')).setCell ⟨W.heap.size + 1 + 1, 0, none⟩ (.slice a' nv c')).frozen? ⟨W.heap.size + 1 + 1, i, none⟩ = false := fun i => by rw [World.frozen?_setCell]; exact f2 i
  have x0 := HT1.t0
  have y0 : (w1.setCell ⟨W.heap.size, 0, none⟩ (.slice a' nv c')).cell? ⟨W.heap.size, 0, none⟩ = some (.slice a' nv c') := sc_eq HT1.t0
  have y1 : (w1.setCell ⟨W.heap.size, 0, none⟩ (.slice a' nv c')).cell? ⟨W.heap.size, 1, none⟩ = some (.slice aL l.length cL) := sc_ne HT1.t1 (.inr (by decide))
  have z0 : (w1.setCell ⟨W.heap.size, 0, none⟩ (.slice a' nv c')).cell? ⟨W.heap.size + 1 + 1, 0, none⟩ = some (.slice none 0 0) := sc_ne HT1.r0 (.inl (by omega))
  have z1 : (w1.setCell ⟨W.heap.size, 0, none⟩ (.slice a' nv c')).cell? ⟨W.heap.size + 1 + 1, 1, none⟩ = some (.slice none 0 0) := sc_ne HT1.r1 (.inl (by omega))
  have q0 : ((w1.setCell ⟨W.heap.size, 0, none⟩ (.slice a' nv c')).setCell ⟨W.heap.size + 1 + 1, 0, none⟩ (.slice a' nv c')).cell? ⟨W.heap.size + 1 + 1, 0, none⟩ = some (.slice a' nv c') := sc_eq z0
  have q1 : ((w1.setCell ⟨W.heap.size, 0, none⟩ (.slice a' nv c')).setCell ⟨W.heap.size + 1 + 1, 0, none⟩ (.slice a' nv c')).cell? ⟨W.heap.size + 1 + 1, 1, none⟩ = some (.slice none 0 0) := sc_ne z1 (.inr (by decide))
  have p0 : (((w1.setCell ⟨W.heap.size, 0, none⟩ (.slice a' nv c')).setCell ⟨W.heap.size + 1 + 1, 0, none⟩ (.slice a' nv c')).setCell ⟨W.heap.size + 1 + 1, 1, none⟩ (.slice aL l.length cL)).cell? ⟨W.heap.size + 1 + 1, 0, none⟩ = some (.slice a' nv c') := sc_ne q0 (.inr (by decide))
  have p1 : (((w1.setCell ⟨W.heap.size, 0, none⟩ (.slice a' nv c')).setCell ⟨W.heap.size + 1 + 1, 0, none⟩ (.slice a' nv c')).setCell ⟨W.heap.size + 1 + 1, 1, none⟩ (.slice aL l.length cL)).cell? ⟨W.heap.size + 1 + 1, 1, none⟩ = some (.slice aL l.length cL) := sc_eq q1
  have hr3 : RowW (((w1.setCell ⟨W.heap.size, 0, none⟩ (.slice a' nv c')).setCell ⟨W.heap.size + 1 + 1, 0, none⟩ (.slice a' nv c')).setCell ⟨W.heap.size + 1 + 1, 1, none⟩ (.slice aL l.length cL)) Y.heap.size (.slice a' nv c') (h ++ [c]) := rowW_set (rowW_set (rowW_set hr _ _ (by show W.heap.size < _; omega)) _ _ hNs) _ _ hNs
  have HR := Lib.hid (show RowW _ W.heap.size (.slice a' nv c') (h ++ [c]) from ⟨hr3.1, hr3.2.imp id fun ⟨g, cap, cur, u1, u2, u3⟩ => ⟨g, cap, cur, u1, Nat.le_trans HB.out.size u2, u3⟩⟩)
  have HBB := Lib.hid ((((HB.out.trans (hb.mono HB.out.size)).setCell (p := ⟨W.heap.size, 0, none⟩) (Nat.le_refl _) (.slice a' nv c')).setCell (p := ⟨W.heap.size + 1 + 1, 0, none⟩) (Nat.le_trans (Nat.le_succ _) (Nat.le_succ _)) (.slice a' nv c')).setCell (p := ⟨W.heap.size + 1 + 1, 1, none⟩) (Nat.le_trans (Nat.le_succ _) (Nat.le_succ _)) (.slice aL l.length cL))
  clear hr hr3 hb HT1 hNs
  go_wp2
  refine bodyPost_ret (v := .agg #[.slice a' nv c', .slice aL l.length cL]) ?_ rfl ⟨_, rfl, HR.out, HBB.out⟩
  simp only [results, Try.results47]
  go_simp
end
end Go.Proofs.Ytjojempjmpaaaaa

namespace Go.Proofs.Ytjojempjmpaaaaa
open Go.RowKit
theorem RowW.shape {W : World} {B : Nat} {v : Value} {l : List Wc} (h : RowW W B v l) : (v = .slice none 0 0 ∧ l = []) ∨ ∃ g cap, v = .slice (some ⟨g, 0, none⟩) l.length cap ∧ l.length ≤ cap ∧ cap ≤ maxLen ∧ WcsAt W (some ⟨g, 0, none⟩) l := by
  obtain ⟨a, c, hv, _, hx⟩ := h.at
  have hw := hx W (fun _ _ => rfl)
  rcases h.2 with ⟨h1, h2⟩ | ⟨g, cap, cur, h1, _, _, h4, h5, _⟩
  · exact .inl ⟨h1, List.length_eq_zero_iff.1 h2⟩
  · rw [hv] at h1
    injection h1 with e1 e2 e3
    exact .inr ⟨g, cap, by rw [hv, e1, e3], h4, h5, e1 ▸ hw⟩
/-- A row of claims that may be read: nil, or at a block; of an empty one the block doesn't matter. -/
def RowQ (W : World) (v : Value) (l : List Wc) : Prop := (v = .slice none 0 0 ∧ l = []) ∨ ∃ g cap, v = .slice (some ⟨g, 0, none⟩) l.length cap ∧ l.length ≤ cap ∧ cap ≤ maxLen ∧ WcsAt W (some ⟨g, 0, none⟩) l
theorem RowW.q {W : World} {B : Nat} {v : Value} {l : List Wc} (h : RowW W B v l) : RowQ W v l := h.shape
theorem RowQ.of {W X : World} {v : Value} {l : List Wc} (h : RowQ W v l) (hb : ∀ g, v.ownBlock = some g → 0 < l.length → X.heap[g]? = W.heap[g]?) : RowQ X v l := by
  rcases h with h | ⟨g, cap, e, h1, h2, h3⟩
  · exact .inl h
  · refine .inr ⟨g, cap, e, h1, h2, ?_⟩
    rcases h3 with h3 | ⟨b, off, e3, hc⟩
    · exact .inl h3
    · refine .inr ⟨b, off, e3, fun i hi => ?_⟩
      injection e3 with e3
      injection e3 with e4 e5
      subst e4
      have hx := hb g (by rw [e]; rfl) (by omega)
      obtain ⟨c0, c1, c2⟩ := hc i hi
      exact ⟨(World.cell?_of_block (a := ⟨g, off + i * 3, none⟩) hx).trans c0, (World.cell?_of_block (a := ⟨g, off + i * 3 + 1, none⟩) hx).trans c1, (World.cell?_of_block (a := ⟨g, off + i * 3 + 2, none⟩) hx).trans c2⟩
theorem RowQ.lt {W : World} {v : Value} {l : List Wc} (h : RowQ W v l) (hl : 0 < l.length) : ∀ g, v.ownBlock = some g → g < W.heap.size ∧ ∃ u, W.cell? ⟨g, 0, none⟩ = some u := fun g e => by
  rcases h with ⟨h, _⟩ | ⟨g', cap, e', h1, h2, h3⟩
  · rw [h] at e; cases e
  · rw [e'] at e
    injection e with e
    subst e
    rcases h3 with h3 | ⟨b, off, e3, hc⟩
    · rw [h3] at hl; simp at hl
    · injection e3 with e3
      injection e3 with e4 e5
      subst e4 e5
      have c0 := (hc 0 hl).1
      exact ⟨block_lt (p := ⟨g', 0 + 0 * 3, none⟩) c0, _, by simpa using c0⟩
theorem RowQ.below {W X : World} {v : Value} {l : List Wc} (h : RowQ W v l) (hb : Below W.heap.size W X) : RowQ X v l := h.of fun g e hl => hb.block g (h.lt hl g e).1
theorem RowQ.form {W : World} {v : Value} {l : List Wc} (h : RowQ W v l) : ∃ a c, v = .slice a l.length c ∧ WcsAt W a l := by
  rcases h with ⟨h, hl⟩ | ⟨g, cap, e, _, _, h3⟩
  · subst hl
    exact ⟨none, 0, h, .inl rfl⟩
  · exact ⟨_, cap, e, h3⟩
theorem with14_row {W : World} {v : Value} {l : List Wc} (h : RowQ W v l) (p : Nat) (x : Wc) (hl : l.length ≤ 100000) (hp : p ≤ l.length) :
    Calls Try.prog 48 #[v, .int .i64 (p : Int), .agg #[.int .i64 x.ow, .string x.k, .bool x.wr]] W (WcP W (l.take p ++ x :: l.drop p)) := by
  rcases h with ⟨rfl, rfl⟩ | ⟨g, cap, rfl, h1, h2, h3⟩
  · obtain rfl : p = 0 := by simpa using hp
    exact with14_nil x
  · exact with14_some g 0 l cap p x hl h1 h2 hp h3
end Go.Proofs.Ytjojempjmpaaaaa
