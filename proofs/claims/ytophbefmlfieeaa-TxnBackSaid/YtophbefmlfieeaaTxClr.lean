/-
  THE CONTRACTS of a known transaction's note of a record that takes one back.
-/
import Derived.Test.YtophbefmlfieeaaTxTake
namespace Go.Proofs.Ytophbefmlfieeaa
open Go.RowKit
section
variable {W : World} {B K : Nat} {d : KnD}
set_option maxRecDepth 100000 in
set_option maxHeartbeats 4000000 in
theorem kn_clr_no (h : KnIs W B K d) (g t p pg u : Int) (key sb sa : ByteArray) (hb ha : Bool) (hst : d.st = 1) (hp : p = d.last) (hl : d.cl.length ≤ 100000) (htk : tkb d.cl ⟨3, g, t, p, pg, key, hb, sb, ha, sa, u⟩ = false) :
    Calls Try.prog 49 #[.pointer (some ⟨K, 0, none⟩), .agg #[.int .i64 3, .int .i64 g, .int .i64 t, .int .i64 p, .int .i64 pg, .string key, .bool hb, .string sb, .bool ha, .string sa, .int .i64 u]] W (fun x w' => x = .returned (.int .i64 1) ∧ Below W.heap.size W w') := by
  obtain ⟨id, home, first, last, st, cv, cl, pv, pl⟩ := d
  simp only at hst hp hl htk
  subst hst hp
  have hb0 := (Below.refl W.heap.size W).alloc (Nat.le_refl _) (.cells #[.int .i64 3, .int .i64 g, .int .i64 t, .int .i64 p, .int .i64 pg, .string key, .bool hb, .string sb, .bool ha, .string sa, .int .i64 u] 38)
  have N0 := Lib.hid (h.below hb0)
  have Q0 : Hid (R11 (W.alloc (.cells #[.int .i64 3, .int .i64 g, .int .i64 t, .int .i64 p, .int .i64 pg, .string key, .bool hb, .string sb, .bool ha, .string sa, .int .i64 u] 38)) W.heap.size ⟨3, g, t, p, pg, key, hb, sb, ha, sa, u⟩) := R11.new W ⟨3, g, t, p, pg, key, hb, sb, ha, sa, u⟩ 38
  have F0 : Hid (FrKn W (W.alloc (.cells #[.int .i64 3, .int .i64 g, .int .i64 t, .int .i64 p, .int .i64 pg, .string key, .bool hb, .string sb, .bool ha, .string sa, .int .i64 u] 38)) K cv pv) := FrKn.of_below hb0
  have B0 := Lib.hid hb0
  have hKq : K ≠ W.heap.size := Nat.ne_of_lt h.lt
  have hqY := Lib.hid hb0.size
  clear hb0 h
  go_enter Try.func49, Try.ntmps49
  go_upto_region 1 with fail
  generalize W.alloc (.cells #[.int .i64 3, .int .i64 g, .int .i64 t, .int .i64 p, .int .i64 pg, .string key, .bool hb, .string sb, .bool ha, .string sa, .int .i64 u] 38) = Y at *
  have B1 := Lib.hid (B0.out.drew)
  generalize hQ : W.heap.size = q at *
  have k3 := N0.out.c3
  have k4 := N0.out.c4
  have kf := N0.out.fz
  obtain ⟨c0, c1, c2, c3, c4, c5, c6, c7, c8, c9, c10⟩ := Q0.out.all
  simp only at k3 k4
  have KT := tkb_any (N0.out.below (Below.refl Y.heap.size Y).drew) 3 g t p pg u key sb sa hb ha (by simpa using hl)
  simp only at KT
  rw [htk] at KT
  have KT := Lib.hid KT
  go_upto_region 3 with fail
  go_region_held3 (fun w' => w'.cell? ⟨q, 0, none⟩ = some (.int .i64 3) ∧ w'.cell? ⟨q, 1, none⟩ = some (.int .i64 g) ∧ w'.cell? ⟨q, 2, none⟩ = some (.int .i64 t) ∧ w'.cell? ⟨q, 3, none⟩ = some (.int .i64 p) ∧ w'.cell? ⟨q, 4, none⟩ = some (.int .i64 pg) ∧ w'.cell? ⟨q, 5, none⟩ = some (.string key) ∧ w'.cell? ⟨q, 6, none⟩ = some (.bool hb) ∧ w'.cell? ⟨q, 7, none⟩ = some (.string sb) ∧ w'.cell? ⟨q, 8, none⟩ = some (.bool ha) ∧ w'.cell? ⟨q, 9, none⟩ = some (.string sa) ∧ w'.cell? ⟨q, 10, none⟩ = some (.int .i64 u) ∧ w'.cell? ⟨K, 3, none⟩ = some (.int .i64 p))
    ((refine ⟨?_, ?_, ?_, ?_, ?_, ?_, ?_, ?_, ?_, ?_, ?_, ?_⟩ <;> (repeat (first | with_reducible assumption | with_reducible refine keep_alloc ?_ | with_reducible refine keep_drew ?_ | with_reducible refine keep_cell (by assumption) ?_))))
    (first
      | (go_at_call 65; refine KT.out.mono ?_; rintro x w98 ⟨rfl, hb98⟩))
  all_goals
    have B9 := Lib.hid (B1.out.trans (hb98.mono hqY.out))
    go_wp2
    go_ret
    exact ⟨rfl, by rw [hQ]; exact B9.out⟩
set_option maxRecDepth 100000 in
set_option maxHeartbeats 4000000 in
theorem kn_clr_yes (h : KnIs W B K d) (g t p pg u : Int) (key sb sa : ByteArray) (hb ha : Bool) (hst : d.st = 1) (hp : p = d.last) (hl : d.cl.length ≤ 100000) (hpl : d.pl.length ≤ 100000) {l : List Rc} {c : Rc} (hz : d.cl = l ++ [c]) (htk : tkb d.cl ⟨3, g, t, p, pg, key, hb, sb, ha, sa, u⟩ = true) :
    Calls Try.prog 49 #[.pointer (some ⟨K, 0, none⟩), .agg #[.int .i64 3, .int .i64 g, .int .i64 t, .int .i64 p, .int .i64 pg, .string key, .bool hb, .string sb, .bool ha, .string sa, .int .i64 u]] W (fun x w' => ∃ n, PlCut d.pl l.length n ∧ (0 < n → ¬ (l.length : Int) < (d.pl.getD (n - 1) noPl).2) ∧ NtP W B K d 0 { d with last := g, cl := l, pl := d.pl.take n } x w') := by
  obtain ⟨id, home, first, last, st, cv, cl, pv, pl⟩ := d
  simp only at hst hp hl hz htk hpl
  subst hst hp
  have hb0 := (Below.refl W.heap.size W).alloc (Nat.le_refl _) (.cells #[.int .i64 3, .int .i64 g, .int .i64 t, .int .i64 p, .int .i64 pg, .string key, .bool hb, .string sb, .bool ha, .string sa, .int .i64 u] 38)
  have N0 := Lib.hid (h.below hb0)
  have Q0 : Hid (R11 (W.alloc (.cells #[.int .i64 3, .int .i64 g, .int .i64 t, .int .i64 p, .int .i64 pg, .string key, .bool hb, .string sb, .bool ha, .string sa, .int .i64 u] 38)) W.heap.size ⟨3, g, t, p, pg, key, hb, sb, ha, sa, u⟩) := R11.new W ⟨3, g, t, p, pg, key, hb, sb, ha, sa, u⟩ 38
  have F0 : Hid (FrKn W (W.alloc (.cells #[.int .i64 3, .int .i64 g, .int .i64 t, .int .i64 p, .int .i64 pg, .string key, .bool hb, .string sb, .bool ha, .string sa, .int .i64 u] 38)) K cv pv) := FrKn.of_below hb0
  have B0 := Lib.hid hb0
  have hKq : K ≠ W.heap.size := Nat.ne_of_lt h.lt
  have hqY := Lib.hid hb0.size
  clear hb0 h
  go_enter Try.func49, Try.ntmps49
  go_upto_region 1 with fail
  generalize W.alloc (.cells #[.int .i64 3, .int .i64 g, .int .i64 t, .int .i64 p, .int .i64 pg, .string key, .bool hb, .string sb, .bool ha, .string sa, .int .i64 u] 38) = Y at *
  have B1 := Lib.hid (B0.out.drew)
  generalize hQ : W.heap.size = q at *
  have k3 := N0.out.c3
  have k4 := N0.out.c4
  have kf := N0.out.fz
  obtain ⟨c0, c1, c2, c3, c4, c5, c6, c7, c8, c9, c10⟩ := Q0.out.all
  simp only at k3 k4
  have KT := tkb_any (N0.out.below (Below.refl Y.heap.size Y).drew) 3 g t p pg u key sb sa hb ha (by simpa using hl)
  simp only at KT
  rw [htk] at KT
  have KT := Lib.hid KT
  go_upto_region 3 with fail
  go_region_held3 (fun w' => w'.cell? ⟨q, 0, none⟩ = some (.int .i64 3) ∧ w'.cell? ⟨q, 1, none⟩ = some (.int .i64 g) ∧ w'.cell? ⟨q, 2, none⟩ = some (.int .i64 t) ∧ w'.cell? ⟨q, 3, none⟩ = some (.int .i64 p) ∧ w'.cell? ⟨q, 4, none⟩ = some (.int .i64 pg) ∧ w'.cell? ⟨q, 5, none⟩ = some (.string key) ∧ w'.cell? ⟨q, 6, none⟩ = some (.bool hb) ∧ w'.cell? ⟨q, 7, none⟩ = some (.string sb) ∧ w'.cell? ⟨q, 8, none⟩ = some (.bool ha) ∧ w'.cell? ⟨q, 9, none⟩ = some (.string sa) ∧ w'.cell? ⟨q, 10, none⟩ = some (.int .i64 u) ∧ w'.cell? ⟨K, 3, none⟩ = some (.int .i64 p))
    ((refine ⟨?_, ?_, ?_, ?_, ?_, ?_, ?_, ?_, ?_, ?_, ?_, ?_⟩ <;> (repeat (first | with_reducible assumption | with_reducible refine keep_alloc ?_ | with_reducible refine keep_drew ?_ | with_reducible refine keep_cell (by assumption) ?_))))
    (first
      | (go_at_call 65; refine KT.out.mono ?_; rintro x w98 ⟨rfl, hb98⟩))
  all_goals
    have hbz := (Below.refl Y.heap.size Y).drew.trans (hb98.mono (Nat.le_refl _))
    have N1 := Lib.hid (N0.out.below hbz)
    have Q1 := Lib.hid (Q0.out.below hbz)
    have F1 := Lib.hid (F0.out.trans (.of_below hbz))
    clear hbz hb98 KT N0 Q0 F0 k3 k4 kf c0 c1 c2 c3 c4 c5 c6 c7 c8 c9 c10 hqY B0 B1
    have k3 := N1.out.c3
    have kf := N1.out.fz
    obtain ⟨c0, c1, c2, c3, c4, c5, c6, c7, c8, c9, c10⟩ := Q1.out.all
    simp only at k3
    have N2 := Lib.hid (N1.out.set5 3 g (by omega))
    have Q2 := Lib.hid (Q1.out.other (b := K) (i := 3) (u := .int .i64 g) hKq)
    have F2 := Lib.hid (F1.out.set (i := 3) (u := .int .i64 g))
    go_upto_region 6 with fail
    generalize w98.setCell ⟨K, 3, none⟩ (.int .i64 g) = V at *
    clear k3 kf c0 c1 c2 c3 c4 c5 c6 c7 c8 c9 c10 N1 Q1 F1
    obtain ⟨c0, c1, c2, c3, c4, c5, c6, c7, c8, c9, c10⟩ := Q2.out.all
    have hll : l.length ≤ 100000 := by rw [hz, List.length_append] at hl; omega
    have KB := Lib.hid (takeBack_any N2.out hz hll hpl)
    clear hll
    go_wp2_with fail
    refine KB.out.mono ?_
    rintro x w9 ⟨rfl, ⟨n, cv', pv', h1, h2, h3, h4, h5, h6⟩⟩
    have HE := Lib.hid h1
    have HF := Lib.hid h2
    have HG := Lib.hid h3
    have HH := Lib.hid h4
    have HI := Lib.hid h5
    have HJ := Lib.hid (F2.out.trans h6)
    clear h1 h2 h3 h4 h5 h6
    go_wp2
    go_ret
    exact ⟨n, HE.out, HF.out, rfl, ⟨_, _, HG.out, fun k hk => .inl (HH.out ▸ hk), fun k hk => .inl (HI.out ▸ hk)⟩, HJ.out⟩
end
end Go.Proofs.Ytophbefmlfieeaa
