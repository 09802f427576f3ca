/-
  THE CONTRACT OF law 11's awake.
-/
import Derived.Test.YtgkpbchpjgkblaaDoorPgBack
import Derived.Test.YtgkpbchpjgkblaaDoorPgSetOk3
namespace Go.Proofs.YtgkpbchpjgkblaaDoor
open Go.RowKit
def kA : ByteArray := ⟨#[97]⟩
def vX : ByteArray := ⟨#[120]⟩
theorem awSet (W : World) : Calls Tryd.prog 15 #[.agg #[.int .i64 3, .int .i64 0, .slice none 0 0], .string kA, .agg #[.bool true, .string vX], .int .i64 5] W
    fun e w' => ∃ a c, e = .returned (.tuple #[.agg #[.int .i64 3, .int .i64 5, .slice a 1 c], .int .i64 0]) ∧ RowC w' W.heap.size (.slice a ([(kA, vX)] : List (ByteArray × ByteArray)).length c) [(kA, vX)] ∧ Below W.heap.size W w' := by
  refine (set_ft 3 0 none [] 0 kA vX 5 W (by unfold maxLen; simp) (Nat.le_refl _) (fun _ => rfl) (.inl rfl) (by decide) (by decide) (by decide) (by decide) (by decide) (fun n _ => by simp [foundB]) (by decide)).mono ?_
  rintro e w' ⟨n, v, hp, rfl, hr, hb⟩
  have e1 : newCl [] kA true vX n (foundB [] kA n) = [(kA, vX)] := by unfold newCl; simp
  rw [e1] at hr
  obtain ⟨a, c, rfl, _⟩ := hr.cls
  exact ⟨a, c, rfl, hr, hb⟩
theorem awOk : pgOk 3 5 [(kA, vX)] = true := by decide
theorem awGet : clGet [(kA, vX)] kA = (true, vX) := by decide
theorem awSame : pgSame 3 5 [(kA, vX)] ((3 : Nat) : Int) ((5 : Nat) : Int) [(kA, vX)] = true := by decide
theorem aw_small : (pgBytes 3 5 [(kA, vX)]).size ≤ 140737488355328 := by
  unfold pgBytes sealStr
  rw [ByteArray.size_append, laid_size]
  have : (bodyL 3 5 [(kA, vX)]).length ≤ 252 := by decide
  have h : (ByteArray.mk (bodyL 3 5 [(kA, vX)] ++ List.replicate (252 - (bodyL 3 5 [(kA, vX)]).length) 0).toArray).size = (bodyL 3 5 [(kA, vX)] ++ List.replicate (252 - (bodyL 3 5 [(kA, vX)]).length) 0).length := by simp [ByteArray.size]
  rw [h, List.length_append, List.length_replicate]
  omega
set_option maxRecDepth 100000 in
set_option maxHeartbeats 4000000 in
theorem awake11_any (w : World) (ht : Tab w) : Calls Tryd.prog 8 #[] w fun e w' => e = .returned (.bool true) ∧ Below w.heap.size w w' := by
  have K1 := Lib.hid awSet
  have K2 := Lib.hid (fun a c W (ha : ClsAt W a [(kA, vX)]) hT => pgLaid_any 3 5 a [(kA, vX)] c W ha hT awOk)
  have K3 := Lib.hid (fun W hT => read_any (pgBytes 3 5 [(kA, vX)]) W aw_small hT)
  rw [readOf_bytes awOk] at K3
  have K4 := Lib.hid (fun a c a2 c2 W (ha : ClsAt W a [(kA, vX)]) (ha2 : ClsAt W a2 [(kA, vX)]) => same_any 3 5 a [(kA, vX)] c ((3 : Nat) : Int) ((5 : Nat) : Int) a2 [(kA, vX)] c2 W (by decide) ha ha2)
  rw [awSame] at K4
  have K5 := Lib.hid (fun a c W (ha : ClsAt W a [(kA, vX)]) => get_any 3 5 a [(kA, vX)] c kA W (by decide) ha)
  rw [awGet, show ((true, vX) : Bool × ByteArray).1 = true from rfl, show ((true, vX) : Bool × ByteArray).2 = ⟨#[120]⟩ from rfl] at K5
  have HT := Lib.hid ht
  clear ht
  go_enter Tryd.func8, Tryd.ntmps8
  go_wp2_with fail
  refine (K1.out _).mono ?_
  rintro e w1 ⟨a, c, rfl, hr1, hb1⟩
  have HT1 := Lib.hid (HT.out.below hb1)
  have B1 : Hid (Below w.heap.size w w1) := hb1
  have hby := (Below.refl w1.heap.size w1).alloc (Nat.le_refl _) (.cells #[.int .i64 3, .int .i64 5, .slice a 1 c] 24)
  have R2 := Lib.hid (hr1.below hby)
  have HT2 := Lib.hid (HT1.out.below hby)
  clear hb1 hby hr1 HT K1
  go_wp2_with fail
  refine (K2.out a c _ R2.out.clsAt HT2.out).mono ?_
  rintro e w3 ⟨rfl, hb3⟩
  have R3 := Lib.hid (R2.out.below hb3)
  have HT3 := Lib.hid (HT2.out.below hb3)
  have p0 : Hid (w3.cell? ⟨w1.heap.size, 0, none⟩ = some (.int .i64 3)) := keep_cell hb3 (new_cell rfl rfl)
  have p1 : Hid (w3.cell? ⟨w1.heap.size, 1, none⟩ = some (.int .i64 5)) := keep_cell hb3 (new_cell rfl rfl)
  have p2 : Hid (w3.cell? ⟨w1.heap.size, 2, none⟩ = some (.slice a 1 c)) := keep_cell hb3 (new_cell rfl rfl)
  have B3 : Hid (Below w.heap.size w w3) := (bw_alloc B1.out).trans (hb3.mono (bw_alloc (o := .cells #[.int .i64 3, .int .i64 5, .slice a 1 c] 24) B1.out).size)
  clear hb3 R2 HT2 HT1 B1 K2
  go_wp2_with fail
  refine (K3.out _ HT3.out).mono ?_
  rintro e w4 ⟨a2, c2, rfl, hr4, hb4⟩
  have R4 := Lib.hid (R3.out.below hb4)
  have q0 := keep_cell hb4 p0.out
  have q1 := keep_cell hb4 p1.out
  have q2 := keep_cell hb4 p2.out
  have B4 := B3.out.trans (hb4.mono B3.out.size)
  have Q4 := Lib.hid hr4
  clear hb4 R3 HT3 p0 p1 p2 B3 hr4 K3
  go_upto_region 3 with fail
  have hby := (Below.refl w4.heap.size w4).alloc (Nat.le_refl _) (.cells #[.int .i64 3, .int .i64 5, .slice a2 1 c2] 24)
  have R5 := Lib.hid (R4.out.below hby)
  have Q5 := Lib.hid (Q4.out.below hby)
  have B5 := Lib.hid (B4.trans (hby.mono B4.size))
  have t0 := keep_cell hby q0
  have t1 := keep_cell hby q1
  have t2 := keep_cell hby q2
  have s0 : (w4.alloc (.cells #[.int .i64 3, .int .i64 5, .slice a2 1 c2] 24)).cell? ⟨w4.heap.size, 0, none⟩ = some (.int .i64 3) := new_cell rfl rfl
  have s1 : (w4.alloc (.cells #[.int .i64 3, .int .i64 5, .slice a2 1 c2] 24)).cell? ⟨w4.heap.size, 1, none⟩ = some (.int .i64 5) := new_cell rfl rfl
  have s2 : (w4.alloc (.cells #[.int .i64 3, .int .i64 5, .slice a2 1 c2] 24)).cell? ⟨w4.heap.size, 2, none⟩ = some (.slice a2 1 c2) := new_cell rfl rfl
  clear hby R4 Q4 B4 q0 q1 q2
  generalize w4.alloc (.cells #[.int .i64 3, .int .i64 5, .slice a2 1 c2] 24) = W5 at *
  generalize w4.heap.size = PQ at *
  generalize w1.heap.size = PP at *
  generalize pgBytes 3 5 [(kA, vX)] = sb at *
  go_wp2_with fail
  refine (K4.out a c a2 c2 _ R5.out.clsAt Q5.out.clsAt).mono ?_
  rintro e w6 ⟨rfl, hb6⟩
  have R6 := Lib.hid (R5.out.below hb6)
  have B6 := Lib.hid (B5.out.trans (hb6.mono B5.out.size))
  have u0 := keep_cell hb6 t0
  have u1 := keep_cell hb6 t1
  have u2 := keep_cell hb6 t2
  clear hb6 R5 Q5 B5 t0 t1 t2 s0 s1 s2 K4
  go_wp2_with fail
  refine (K5.out a c _ R6.out.clsAt).mono ?_
  rintro e w7 ⟨rfl, hb7⟩
  have B7 := B6.out.trans (hb7.mono B6.out.size)
  clear hb7 R6 B6 u0 u1 u2 K5
  go_wp2
  go_ret
  exact ⟨rfl, B7⟩
end Go.Proofs.YtgkpbchpjgkblaaDoor
