/-
  THE CONTRACTS OF record.Print AND quadrigaref04.Print, of any right record: its words.
-/
import Derived.Test.YtlggbbaigcnpjaaDoorRpPure
import Derived.Test.YtlggbbaigcnpjaaDoorRpPrintN
import Derived.Test.YtlggbbaigcnpjaaDoorRpPrintU
import Derived.Test.YtlggbbaigcnpjaaDoorRpPrintP
import Derived.Test.YtlggbbaigcnpjaaDoorRpPrintQ
import Derived.Test.YtlggbbaigcnpjaaDoorRpRef1
import Derived.Test.YtlggbbaigcnpjaaDoorRpRef2
import Derived.Test.YtlggbbaigcnpjaaDoorRpRef3
import Derived.Test.YtlggbbaigcnpjaaDoorRpRef4
import Derived.Test.YtlggbbaigcnpjaaDoorRpRef5
import Derived.Test.YtlggbbaigcnpjaaDoorRpRef6
namespace Go.Proofs.YtlggbbaigcnpjaaDoor
open Go.RowKit
set_option linter.unusedVariables false

theorem zb (l : List UInt8) (h : l.length ≤ 100000) : ¬ 9223372036854775807 < (txt l).size + 1 := by rw [txt_size]; omega
theorem zt (l m : List UInt8) (h : l.length ≤ 100000) (h' : m.length ≤ 100000) : ¬ 9223372036854775807 < (txt l).size + (txt m).size := by rw [txt_size, txt_size]; omega
theorem told_len {h : Bool} {s : ByteArray} (hs : s.size ≤ 16) : (toldL h s).length ≤ 50 := by
  unfold toldL
  cases h
  · rw [if_neg (by decide)]; decide
  · rw [if_pos rfl, List.length_cons, hexL_len, ba_len]; omega
theorem hex_len {s : ByteArray} (hs : s.size ≤ 16) : (hexL s.data.toList).length ≤ 50 := by
  rw [hexL_len, ba_len]; omega
theorem dec_len50 {n : Int} (h : n ≤ 4611686018427387903) : (Lib.decDigits n.toNat).length ≤ 50 := Nat.le_trans (dec_len _ (by omega)) (by omega)

theorem words_1 (g t p pg u : Int) (key sb sa : ByteArray) (hb ha : Bool) : words 1 g t p pg key hb sb ha sa u = [nameTexts.getD 1 [], Lib.decDigits t.toNat, Lib.decDigits g.toNat, Lib.decDigits p.toNat] := rfl
set_option maxHeartbeats 1000000 in
theorem printP_1 (g t p pg u : Int) (key sb sa : ByteArray) (hb ha : Bool) (w : World) (hr : rcOk 1 g t p pg key hb sb ha sa u = true) (hN : ∀ i, i < 7 → w.cell? ⟨0, i, none⟩ = some (.string (txt (nameTexts.getD i [])))) (hT : Tab w) :
    Calls Tryd.prog 12 #[.agg #[.int .i64 1, .int .i64 g, .int .i64 t, .int .i64 p, .int .i64 pg, .string key, .bool hb, .string sb, .bool ha, .string sa, .int .i64 u]] w fun e w' => e = .returned (.string (prt 1 g t p pg key hb sb ha sa u)) ∧ Below w.heap.size w w' := by
  obtain ⟨a1, a2, a3, a4, a5, a6, a7, a8⟩ := rcOk_num hr
  obtain ⟨u1, u2⟩ := rcOk_u hr
  have l0 : (nameTexts.getD 1 []).length ≤ 50 := by decide
  have l1 := dec_len50 (n := t) (by omega)
  have l2 := dec_len50 (n := g) (by omega)
  have l3 := dec_len50 (n := p) (by omega)
  unfold prt
  rw [words_1]
  exact print_N 1 g t p pg u key sb sa (txt (nameTexts.getD 1 [])) (txt (Lib.decDigits t.toNat)) (txt (Lib.decDigits g.toNat)) (txt (Lib.decDigits p.toNat)) hb ha w (by decide) hr (by decide) (by decide) (hN 1 (by decide)) hT (Lib.hid (fun W h => itoa_any t (by omega) (by omega) W h)) (Lib.hid (fun W h => itoa_any g (by omega) (by omega) W h)) (Lib.hid (fun W h => itoa_any p (by omega) (by omega) W h)) (join_len (x := nameTexts.getD 1 []) (r := [Lib.decDigits t.toNat, Lib.decDigits g.toNat, Lib.decDigits p.toNat]) (by intro z hz; simp only [List.mem_cons, List.not_mem_nil, or_false] at hz; rcases hz with rfl | rfl | rfl | rfl <;> assumption) (by simp only [List.length_cons, List.length_nil]; omega))
set_option maxHeartbeats 2000000 in
theorem refP_1 (g t p pg u : Int) (key sb sa : ByteArray) (hb ha : Bool) (w : World) (hr : rcOk 1 g t p pg key hb sb ha sa u = true) :
    Calls Tryd.prog 13 #[.agg #[.int .i64 1, .int .i64 g, .int .i64 t, .int .i64 p, .int .i64 pg, .string key, .bool hb, .string sb, .bool ha, .string sa, .int .i64 u]] w fun e w' => e = .returned (.string (prt 1 g t p pg key hb sb ha sa u)) ∧ Below w.heap.size w w' := by
  obtain ⟨a1, a2, a3, a4, a5, a6, a7, a8⟩ := rcOk_num hr
  obtain ⟨u1, u2⟩ := rcOk_u hr
  have l0 : (nameTexts.getD 1 []).length ≤ 50 := by decide
  have l1 := dec_len50 (n := t) (by omega)
  have l2 := dec_len50 (n := g) (by omega)
  have l3 := dec_len50 (n := p) (by omega)
  unfold prt
  rw [words_1]
  have KI := @refPrint_1 g t p pg u key sb sa (txt (nameTexts.getD 1 [])) (txt (Lib.decDigits t.toNat)) (txt (Lib.decDigits g.toNat)) (txt (Lib.decDigits p.toNat))
  have i1 := (Lib.hid (fun W => number_any t W (by omega) (by omega)))
  have i2 := (Lib.hid (fun W => number_any g W (by omega) (by omega)))
  have i3 := (Lib.hid (fun W => number_any p W (by omega) (by omega)))
  have hB : (⟨#[98, 101, 103, 105, 110]⟩ : ByteArray) = txt (nameTexts.getD 1 []) := rfl
  generalize nameTexts.getD 1 [] = x0 at *
  generalize Lib.decDigits t.toNat = x1 at *
  generalize Lib.decDigits g.toNat = x2 at *
  generalize Lib.decDigits p.toNat = x3 at *
  have hJ : txt (Lib.join [x0, x1, x2, x3] [32]) = txt (x0 ++ [32] ++ x1 ++ [32] ++ x2 ++ [32] ++ x3) := congrArg txt (by simp [Lib.join_cons, Lib.joinTail])
  rw [hJ]
  exact KI (txt (x0 ++ [32])) (txt (x0 ++ [32] ++ x1)) (txt (x0 ++ [32] ++ x1 ++ [32])) (txt (x0 ++ [32] ++ x1 ++ [32] ++ x2)) (txt (x0 ++ [32] ++ x1 ++ [32] ++ x2 ++ [32])) (txt (x0 ++ [32] ++ x1 ++ [32] ++ x2 ++ [32] ++ x3)) hb ha w hB i1 i2 i3 (txt_cat (x0) [32]) (txt_cat (x0 ++ [32]) x1) (txt_cat (x0 ++ [32] ++ x1) [32]) (txt_cat (x0 ++ [32] ++ x1 ++ [32]) x2) (txt_cat (x0 ++ [32] ++ x1 ++ [32] ++ x2) [32]) (txt_cat (x0 ++ [32] ++ x1 ++ [32] ++ x2 ++ [32]) x3) (zb (x0) (by (try simp only [List.length_append, List.length_cons, List.length_nil]); omega)) (zt (x0 ++ [32]) x1 (by simp only [List.length_append, List.length_cons, List.length_nil]; omega) (by omega)) (zb (x0 ++ [32] ++ x1) (by (try simp only [List.length_append, List.length_cons, List.length_nil]); omega)) (zt (x0 ++ [32] ++ x1 ++ [32]) x2 (by simp only [List.length_append, List.length_cons, List.length_nil]; omega) (by omega)) (zb (x0 ++ [32] ++ x1 ++ [32] ++ x2) (by (try simp only [List.length_append, List.length_cons, List.length_nil]); omega)) (zt (x0 ++ [32] ++ x1 ++ [32] ++ x2 ++ [32]) x3 (by simp only [List.length_append, List.length_cons, List.length_nil]; omega) (by omega))
theorem words_2 (g t p pg u : Int) (key sb sa : ByteArray) (hb ha : Bool) : words 2 g t p pg key hb sb ha sa u = [nameTexts.getD 2 [], Lib.decDigits t.toNat, Lib.decDigits g.toNat, Lib.decDigits p.toNat, Lib.decDigits pg.toNat, hexL key.data.toList, toldL hb sb, toldL ha sa] := rfl
set_option maxHeartbeats 1000000 in
theorem printP_2 (g t p pg u : Int) (key sb sa : ByteArray) (hb ha : Bool) (w : World) (hr : rcOk 2 g t p pg key hb sb ha sa u = true) (hN : ∀ i, i < 7 → w.cell? ⟨0, i, none⟩ = some (.string (txt (nameTexts.getD i [])))) (hT : Tab w) :
    Calls Tryd.prog 12 #[.agg #[.int .i64 2, .int .i64 g, .int .i64 t, .int .i64 p, .int .i64 pg, .string key, .bool hb, .string sb, .bool ha, .string sa, .int .i64 u]] w fun e w' => e = .returned (.string (prt 2 g t p pg key hb sb ha sa u)) ∧ Below w.heap.size w w' := by
  obtain ⟨a1, a2, a3, a4, a5, a6, a7, a8⟩ := rcOk_num hr
  obtain ⟨u1, u2⟩ := rcOk_u hr
  have l0 : (nameTexts.getD 2 []).length ≤ 50 := by decide
  have l1 := dec_len50 (n := t) (by omega)
  have l2 := dec_len50 (n := g) (by omega)
  have l3 := dec_len50 (n := p) (by omega)
  obtain ⟨c1, c2, c3, c4, c5, c6⟩ := rcOk_chg hr (by decide)
  have l4 := dec_len50 (n := pg) (by omega)
  have l5 := hex_len (s := key) (by omega)
  have l6 := told_len (h := hb) (s := sb) (by omega)
  have l7 := told_len (h := ha) (s := sa) (by omega)
  unfold prt
  rw [words_2]
  exact print_P 2 g t p pg u key sb sa (txt (nameTexts.getD 2 [])) (txt (Lib.decDigits t.toNat)) (txt (Lib.decDigits g.toNat)) (txt (Lib.decDigits p.toNat)) (txt (Lib.decDigits pg.toNat)) (txt (hexL key.data.toList)) (txt (toldL hb sb)) (txt (toldL ha sa)) hb ha w (by decide) hr (by decide) (by decide) (hN 2 (by decide)) hT (Lib.hid (fun W h => itoa_any t (by omega) (by omega) W h)) (Lib.hid (fun W h => itoa_any g (by omega) (by omega) W h)) (Lib.hid (fun W h => itoa_any p (by omega) (by omega) W h)) (Lib.hid (fun W h => itoa_any pg (by omega) (by omega) W h)) (Lib.hid (fun W => hex_any key W (by omega))) (Lib.hid (fun W => told_any hb sb W (by omega))) (Lib.hid (fun W => told_any ha sa W (by omega))) (join_len (x := nameTexts.getD 2 []) (r := [Lib.decDigits t.toNat, Lib.decDigits g.toNat, Lib.decDigits p.toNat, Lib.decDigits pg.toNat, hexL key.data.toList, toldL hb sb, toldL ha sa]) (by intro z hz; simp only [List.mem_cons, List.not_mem_nil, or_false] at hz; rcases hz with rfl | rfl | rfl | rfl | rfl | rfl | rfl | rfl <;> assumption) (by simp only [List.length_cons, List.length_nil]; omega))
set_option maxHeartbeats 2000000 in
theorem refP_2 (g t p pg u : Int) (key sb sa : ByteArray) (hb ha : Bool) (w : World) (hr : rcOk 2 g t p pg key hb sb ha sa u = true) :
    Calls Tryd.prog 13 #[.agg #[.int .i64 2, .int .i64 g, .int .i64 t, .int .i64 p, .int .i64 pg, .string key, .bool hb, .string sb, .bool ha, .string sa, .int .i64 u]] w fun e w' => e = .returned (.string (prt 2 g t p pg key hb sb ha sa u)) ∧ Below w.heap.size w w' := by
  obtain ⟨a1, a2, a3, a4, a5, a6, a7, a8⟩ := rcOk_num hr
  obtain ⟨u1, u2⟩ := rcOk_u hr
  have l0 : (nameTexts.getD 2 []).length ≤ 50 := by decide
  have l1 := dec_len50 (n := t) (by omega)
  have l2 := dec_len50 (n := g) (by omega)
  have l3 := dec_len50 (n := p) (by omega)
  obtain ⟨c1, c2, c3, c4, c5, c6⟩ := rcOk_chg hr (by decide)
  have l4 := dec_len50 (n := pg) (by omega)
  have l5 := hex_len (s := key) (by omega)
  have l6 := told_len (h := hb) (s := sb) (by omega)
  have l7 := told_len (h := ha) (s := sa) (by omega)
  unfold prt
  rw [words_2]
  have KI := @refPrint_2 g t p pg u key sb sa (txt (nameTexts.getD 2 [])) (txt (Lib.decDigits t.toNat)) (txt (Lib.decDigits g.toNat)) (txt (Lib.decDigits p.toNat)) (txt (Lib.decDigits pg.toNat)) (txt (hexL key.data.toList)) (txt (toldL hb sb)) (txt (toldL ha sa))
  have i1 := (Lib.hid (fun W => number_any t W (by omega) (by omega)))
  have i2 := (Lib.hid (fun W => number_any g W (by omega) (by omega)))
  have i3 := (Lib.hid (fun W => number_any p W (by omega) (by omega)))
  have i4 := (Lib.hid (fun W => number_any pg W (by omega) (by omega)))
  have i5 := (Lib.hid (fun W => refHex_any key W (by omega)))
  have i6 := (Lib.hid (fun W => refTold_any hb sb W (by omega)))
  have i7 := (Lib.hid (fun W => refTold_any ha sa W (by omega)))
  have hB : (⟨#[117, 112, 100, 97, 116, 101]⟩ : ByteArray) = txt (nameTexts.getD 2 []) := rfl
  generalize nameTexts.getD 2 [] = x0 at *
  generalize Lib.decDigits t.toNat = x1 at *
  generalize Lib.decDigits g.toNat = x2 at *
  generalize Lib.decDigits p.toNat = x3 at *
  generalize Lib.decDigits pg.toNat = x4 at *
  generalize hexL key.data.toList = x5 at *
  generalize toldL hb sb = x6 at *
  generalize toldL ha sa = x7 at *
  have hJ : txt (Lib.join [x0, x1, x2, x3, x4, x5, x6, x7] [32]) = txt (x0 ++ [32] ++ x1 ++ [32] ++ x2 ++ [32] ++ x3 ++ [32] ++ x4 ++ [32] ++ x5 ++ [32] ++ x6 ++ [32] ++ x7) := congrArg txt (by simp [Lib.join_cons, Lib.joinTail])
  rw [hJ]
  exact KI (txt (x0 ++ [32])) (txt (x0 ++ [32] ++ x1)) (txt (x0 ++ [32] ++ x1 ++ [32])) (txt (x0 ++ [32] ++ x1 ++ [32] ++ x2)) (txt (x0 ++ [32] ++ x1 ++ [32] ++ x2 ++ [32])) (txt (x0 ++ [32] ++ x1 ++ [32] ++ x2 ++ [32] ++ x3)) (txt (x0 ++ [32] ++ x1 ++ [32] ++ x2 ++ [32] ++ x3 ++ [32])) (txt (x0 ++ [32] ++ x1 ++ [32] ++ x2 ++ [32] ++ x3 ++ [32] ++ x4)) (txt (x0 ++ [32] ++ x1 ++ [32] ++ x2 ++ [32] ++ x3 ++ [32] ++ x4 ++ [32])) (txt (x0 ++ [32] ++ x1 ++ [32] ++ x2 ++ [32] ++ x3 ++ [32] ++ x4 ++ [32] ++ x5)) (txt (x0 ++ [32] ++ x1 ++ [32] ++ x2 ++ [32] ++ x3 ++ [32] ++ x4 ++ [32] ++ x5 ++ [32])) (txt (x0 ++ [32] ++ x1 ++ [32] ++ x2 ++ [32] ++ x3 ++ [32] ++ x4 ++ [32] ++ x5 ++ [32] ++ x6)) (txt (x0 ++ [32] ++ x1 ++ [32] ++ x2 ++ [32] ++ x3 ++ [32] ++ x4 ++ [32] ++ x5 ++ [32] ++ x6 ++ [32])) (txt (x0 ++ [32] ++ x1 ++ [32] ++ x2 ++ [32] ++ x3 ++ [32] ++ x4 ++ [32] ++ x5 ++ [32] ++ x6 ++ [32] ++ x7)) hb ha w hB i1 i2 i3 i4 i5 i6 i7 (txt_cat (x0) [32]) (txt_cat (x0 ++ [32]) x1) (txt_cat (x0 ++ [32] ++ x1) [32]) (txt_cat (x0 ++ [32] ++ x1 ++ [32]) x2) (txt_cat (x0 ++ [32] ++ x1 ++ [32] ++ x2) [32]) (txt_cat (x0 ++ [32] ++ x1 ++ [32] ++ x2 ++ [32]) x3) (txt_cat (x0 ++ [32] ++ x1 ++ [32] ++ x2 ++ [32] ++ x3) [32]) (txt_cat (x0 ++ [32] ++ x1 ++ [32] ++ x2 ++ [32] ++ x3 ++ [32]) x4) (txt_cat (x0 ++ [32] ++ x1 ++ [32] ++ x2 ++ [32] ++ x3 ++ [32] ++ x4) [32]) (txt_cat (x0 ++ [32] ++ x1 ++ [32] ++ x2 ++ [32] ++ x3 ++ [32] ++ x4 ++ [32]) x5) (txt_cat (x0 ++ [32] ++ x1 ++ [32] ++ x2 ++ [32] ++ x3 ++ [32] ++ x4 ++ [32] ++ x5) [32]) (txt_cat (x0 ++ [32] ++ x1 ++ [32] ++ x2 ++ [32] ++ x3 ++ [32] ++ x4 ++ [32] ++ x5 ++ [32]) x6) (txt_cat (x0 ++ [32] ++ x1 ++ [32] ++ x2 ++ [32] ++ x3 ++ [32] ++ x4 ++ [32] ++ x5 ++ [32] ++ x6) [32]) (txt_cat (x0 ++ [32] ++ x1 ++ [32] ++ x2 ++ [32] ++ x3 ++ [32] ++ x4 ++ [32] ++ x5 ++ [32] ++ x6 ++ [32]) x7) (zb (x0) (by (try simp only [List.length_append, List.length_cons, List.length_nil]); omega)) (zt (x0 ++ [32]) x1 (by simp only [List.length_append, List.length_cons, List.length_nil]; omega) (by omega)) (zb (x0 ++ [32] ++ x1) (by (try simp only [List.length_append, List.length_cons, List.length_nil]); omega)) (zt (x0 ++ [32] ++ x1 ++ [32]) x2 (by simp only [List.length_append, List.length_cons, List.length_nil]; omega) (by omega)) (zb (x0 ++ [32] ++ x1 ++ [32] ++ x2) (by (try simp only [List.length_append, List.length_cons, List.length_nil]); omega)) (zt (x0 ++ [32] ++ x1 ++ [32] ++ x2 ++ [32]) x3 (by simp only [List.length_append, List.length_cons, List.length_nil]; omega) (by omega)) (zb (x0 ++ [32] ++ x1 ++ [32] ++ x2 ++ [32] ++ x3) (by (try simp only [List.length_append, List.length_cons, List.length_nil]); omega)) (zt (x0 ++ [32] ++ x1 ++ [32] ++ x2 ++ [32] ++ x3 ++ [32]) x4 (by simp only [List.length_append, List.length_cons, List.length_nil]; omega) (by omega)) (zb (x0 ++ [32] ++ x1 ++ [32] ++ x2 ++ [32] ++ x3 ++ [32] ++ x4) (by (try simp only [List.length_append, List.length_cons, List.length_nil]); omega)) (zt (x0 ++ [32] ++ x1 ++ [32] ++ x2 ++ [32] ++ x3 ++ [32] ++ x4 ++ [32]) x5 (by simp only [List.length_append, List.length_cons, List.length_nil]; omega) (by omega)) (zb (x0 ++ [32] ++ x1 ++ [32] ++ x2 ++ [32] ++ x3 ++ [32] ++ x4 ++ [32] ++ x5) (by (try simp only [List.length_append, List.length_cons, List.length_nil]); omega)) (zt (x0 ++ [32] ++ x1 ++ [32] ++ x2 ++ [32] ++ x3 ++ [32] ++ x4 ++ [32] ++ x5 ++ [32]) x6 (by simp only [List.length_append, List.length_cons, List.length_nil]; omega) (by omega)) (zb (x0 ++ [32] ++ x1 ++ [32] ++ x2 ++ [32] ++ x3 ++ [32] ++ x4 ++ [32] ++ x5 ++ [32] ++ x6) (by (try simp only [List.length_append, List.length_cons, List.length_nil]); omega)) (zt (x0 ++ [32] ++ x1 ++ [32] ++ x2 ++ [32] ++ x3 ++ [32] ++ x4 ++ [32] ++ x5 ++ [32] ++ x6 ++ [32]) x7 (by simp only [List.length_append, List.length_cons, List.length_nil]; omega) (by omega))
theorem words_3 (g t p pg u : Int) (key sb sa : ByteArray) (hb ha : Bool) : words 3 g t p pg key hb sb ha sa u = [nameTexts.getD 3 [], Lib.decDigits t.toNat, Lib.decDigits g.toNat, Lib.decDigits p.toNat, Lib.decDigits pg.toNat, hexL key.data.toList, toldL hb sb, toldL ha sa, Lib.decDigits u.toNat] := rfl
set_option maxHeartbeats 1000000 in
theorem printP_3 (g t p pg u : Int) (key sb sa : ByteArray) (hb ha : Bool) (w : World) (hr : rcOk 3 g t p pg key hb sb ha sa u = true) (hN : ∀ i, i < 7 → w.cell? ⟨0, i, none⟩ = some (.string (txt (nameTexts.getD i [])))) (hT : Tab w) :
    Calls Tryd.prog 12 #[.agg #[.int .i64 3, .int .i64 g, .int .i64 t, .int .i64 p, .int .i64 pg, .string key, .bool hb, .string sb, .bool ha, .string sa, .int .i64 u]] w fun e w' => e = .returned (.string (prt 3 g t p pg key hb sb ha sa u)) ∧ Below w.heap.size w w' := by
  obtain ⟨a1, a2, a3, a4, a5, a6, a7, a8⟩ := rcOk_num hr
  obtain ⟨u1, u2⟩ := rcOk_u hr
  have l0 : (nameTexts.getD 3 []).length ≤ 50 := by decide
  have l1 := dec_len50 (n := t) (by omega)
  have l2 := dec_len50 (n := g) (by omega)
  have l3 := dec_len50 (n := p) (by omega)
  obtain ⟨c1, c2, c3, c4, c5, c6⟩ := rcOk_chg hr (by decide)
  have l4 := dec_len50 (n := pg) (by omega)
  have l5 := hex_len (s := key) (by omega)
  have l6 := told_len (h := hb) (s := sb) (by omega)
  have l7 := told_len (h := ha) (s := sa) (by omega)
  have l8 := dec_len50 (n := u) (by omega)
  unfold prt
  rw [words_3]
  exact print_Q 3 g t p pg u key sb sa (txt (nameTexts.getD 3 [])) (txt (Lib.decDigits t.toNat)) (txt (Lib.decDigits g.toNat)) (txt (Lib.decDigits p.toNat)) (txt (Lib.decDigits pg.toNat)) (txt (hexL key.data.toList)) (txt (toldL hb sb)) (txt (toldL ha sa)) (txt (Lib.decDigits u.toNat)) hb ha w (by decide) hr (by decide) (by decide) (hN 3 (by decide)) hT (Lib.hid (fun W h => itoa_any t (by omega) (by omega) W h)) (Lib.hid (fun W h => itoa_any g (by omega) (by omega) W h)) (Lib.hid (fun W h => itoa_any p (by omega) (by omega) W h)) (Lib.hid (fun W h => itoa_any pg (by omega) (by omega) W h)) (Lib.hid (fun W => hex_any key W (by omega))) (Lib.hid (fun W => told_any hb sb W (by omega))) (Lib.hid (fun W => told_any ha sa W (by omega))) (Lib.hid (fun W h => itoa_any u (by omega) (by omega) W h)) (join_len (x := nameTexts.getD 3 []) (r := [Lib.decDigits t.toNat, Lib.decDigits g.toNat, Lib.decDigits p.toNat, Lib.decDigits pg.toNat, hexL key.data.toList, toldL hb sb, toldL ha sa, Lib.decDigits u.toNat]) (by intro z hz; simp only [List.mem_cons, List.not_mem_nil, or_false] at hz; rcases hz with rfl | rfl | rfl | rfl | rfl | rfl | rfl | rfl | rfl <;> assumption) (by simp only [List.length_cons, List.length_nil]; omega))
set_option maxHeartbeats 2000000 in
theorem refP_3 (g t p pg u : Int) (key sb sa : ByteArray) (hb ha : Bool) (w : World) (hr : rcOk 3 g t p pg key hb sb ha sa u = true) :
    Calls Tryd.prog 13 #[.agg #[.int .i64 3, .int .i64 g, .int .i64 t, .int .i64 p, .int .i64 pg, .string key, .bool hb, .string sb, .bool ha, .string sa, .int .i64 u]] w fun e w' => e = .returned (.string (prt 3 g t p pg key hb sb ha sa u)) ∧ Below w.heap.size w w' := by
  obtain ⟨a1, a2, a3, a4, a5, a6, a7, a8⟩ := rcOk_num hr
  obtain ⟨u1, u2⟩ := rcOk_u hr
  have l0 : (nameTexts.getD 3 []).length ≤ 50 := by decide
  have l1 := dec_len50 (n := t) (by omega)
  have l2 := dec_len50 (n := g) (by omega)
  have l3 := dec_len50 (n := p) (by omega)
  obtain ⟨c1, c2, c3, c4, c5, c6⟩ := rcOk_chg hr (by decide)
  have l4 := dec_len50 (n := pg) (by omega)
  have l5 := hex_len (s := key) (by omega)
  have l6 := told_len (h := hb) (s := sb) (by omega)
  have l7 := told_len (h := ha) (s := sa) (by omega)
  have l8 := dec_len50 (n := u) (by omega)
  unfold prt
  rw [words_3]
  have KI := @refPrint_3 g t p pg u key sb sa (txt (nameTexts.getD 3 [])) (txt (Lib.decDigits t.toNat)) (txt (Lib.decDigits g.toNat)) (txt (Lib.decDigits p.toNat)) (txt (Lib.decDigits pg.toNat)) (txt (hexL key.data.toList)) (txt (toldL hb sb)) (txt (toldL ha sa)) (txt (Lib.decDigits u.toNat))
  have i1 := (Lib.hid (fun W => number_any t W (by omega) (by omega)))
  have i2 := (Lib.hid (fun W => number_any g W (by omega) (by omega)))
  have i3 := (Lib.hid (fun W => number_any p W (by omega) (by omega)))
  have i4 := (Lib.hid (fun W => number_any pg W (by omega) (by omega)))
  have i5 := (Lib.hid (fun W => refHex_any key W (by omega)))
  have i6 := (Lib.hid (fun W => refTold_any hb sb W (by omega)))
  have i7 := (Lib.hid (fun W => refTold_any ha sa W (by omega)))
  have i8 := (Lib.hid (fun W => number_any u W (by omega) (by omega)))
  have hB : (⟨#[99, 108, 114]⟩ : ByteArray) = txt (nameTexts.getD 3 []) := rfl
  generalize nameTexts.getD 3 [] = x0 at *
  generalize Lib.decDigits t.toNat = x1 at *
  generalize Lib.decDigits g.toNat = x2 at *
  generalize Lib.decDigits p.toNat = x3 at *
  generalize Lib.decDigits pg.toNat = x4 at *
  generalize hexL key.data.toList = x5 at *
  generalize toldL hb sb = x6 at *
  generalize toldL ha sa = x7 at *
  generalize Lib.decDigits u.toNat = x8 at *
  have hJ : txt (Lib.join [x0, x1, x2, x3, x4, x5, x6, x7, x8] [32]) = txt (x0 ++ [32] ++ x1 ++ [32] ++ x2 ++ [32] ++ x3 ++ [32] ++ x4 ++ [32] ++ x5 ++ [32] ++ x6 ++ [32] ++ x7 ++ [32] ++ x8) := congrArg txt (by simp [Lib.join_cons, Lib.joinTail])
  rw [hJ]
  exact KI (txt (x0 ++ [32])) (txt (x0 ++ [32] ++ x1)) (txt (x0 ++ [32] ++ x1 ++ [32])) (txt (x0 ++ [32] ++ x1 ++ [32] ++ x2)) (txt (x0 ++ [32] ++ x1 ++ [32] ++ x2 ++ [32])) (txt (x0 ++ [32] ++ x1 ++ [32] ++ x2 ++ [32] ++ x3)) (txt (x0 ++ [32] ++ x1 ++ [32] ++ x2 ++ [32] ++ x3 ++ [32])) (txt (x0 ++ [32] ++ x1 ++ [32] ++ x2 ++ [32] ++ x3 ++ [32] ++ x4)) (txt (x0 ++ [32] ++ x1 ++ [32] ++ x2 ++ [32] ++ x3 ++ [32] ++ x4 ++ [32])) (txt (x0 ++ [32] ++ x1 ++ [32] ++ x2 ++ [32] ++ x3 ++ [32] ++ x4 ++ [32] ++ x5)) (txt (x0 ++ [32] ++ x1 ++ [32] ++ x2 ++ [32] ++ x3 ++ [32] ++ x4 ++ [32] ++ x5 ++ [32])) (txt (x0 ++ [32] ++ x1 ++ [32] ++ x2 ++ [32] ++ x3 ++ [32] ++ x4 ++ [32] ++ x5 ++ [32] ++ x6)) (txt (x0 ++ [32] ++ x1 ++ [32] ++ x2 ++ [32] ++ x3 ++ [32] ++ x4 ++ [32] ++ x5 ++ [32] ++ x6 ++ [32])) (txt (x0 ++ [32] ++ x1 ++ [32] ++ x2 ++ [32] ++ x3 ++ [32] ++ x4 ++ [32] ++ x5 ++ [32] ++ x6 ++ [32] ++ x7)) (txt (x0 ++ [32] ++ x1 ++ [32] ++ x2 ++ [32] ++ x3 ++ [32] ++ x4 ++ [32] ++ x5 ++ [32] ++ x6 ++ [32] ++ x7 ++ [32])) (txt (x0 ++ [32] ++ x1 ++ [32] ++ x2 ++ [32] ++ x3 ++ [32] ++ x4 ++ [32] ++ x5 ++ [32] ++ x6 ++ [32] ++ x7 ++ [32] ++ x8)) hb ha w hB i1 i2 i3 i4 i5 i6 i7 i8 (txt_cat (x0) [32]) (txt_cat (x0 ++ [32]) x1) (txt_cat (x0 ++ [32] ++ x1) [32]) (txt_cat (x0 ++ [32] ++ x1 ++ [32]) x2) (txt_cat (x0 ++ [32] ++ x1 ++ [32] ++ x2) [32]) (txt_cat (x0 ++ [32] ++ x1 ++ [32] ++ x2 ++ [32]) x3) (txt_cat (x0 ++ [32] ++ x1 ++ [32] ++ x2 ++ [32] ++ x3) [32]) (txt_cat (x0 ++ [32] ++ x1 ++ [32] ++ x2 ++ [32] ++ x3 ++ [32]) x4) (txt_cat (x0 ++ [32] ++ x1 ++ [32] ++ x2 ++ [32] ++ x3 ++ [32] ++ x4) [32]) (txt_cat (x0 ++ [32] ++ x1 ++ [32] ++ x2 ++ [32] ++ x3 ++ [32] ++ x4 ++ [32]) x5) (txt_cat (x0 ++ [32] ++ x1 ++ [32] ++ x2 ++ [32] ++ x3 ++ [32] ++ x4 ++ [32] ++ x5) [32]) (txt_cat (x0 ++ [32] ++ x1 ++ [32] ++ x2 ++ [32] ++ x3 ++ [32] ++ x4 ++ [32] ++ x5 ++ [32]) x6) (txt_cat (x0 ++ [32] ++ x1 ++ [32] ++ x2 ++ [32] ++ x3 ++ [32] ++ x4 ++ [32] ++ x5 ++ [32] ++ x6) [32]) (txt_cat (x0 ++ [32] ++ x1 ++ [32] ++ x2 ++ [32] ++ x3 ++ [32] ++ x4 ++ [32] ++ x5 ++ [32] ++ x6 ++ [32]) x7) (txt_cat (x0 ++ [32] ++ x1 ++ [32] ++ x2 ++ [32] ++ x3 ++ [32] ++ x4 ++ [32] ++ x5 ++ [32] ++ x6 ++ [32] ++ x7) [32]) (txt_cat (x0 ++ [32] ++ x1 ++ [32] ++ x2 ++ [32] ++ x3 ++ [32] ++ x4 ++ [32] ++ x5 ++ [32] ++ x6 ++ [32] ++ x7 ++ [32]) x8) (zb (x0) (by (try simp only [List.length_append, List.length_cons, List.length_nil]); omega)) (zt (x0 ++ [32]) x1 (by simp only [List.length_append, List.length_cons, List.length_nil]; omega) (by omega)) (zb (x0 ++ [32] ++ x1) (by (try simp only [List.length_append, List.length_cons, List.length_nil]); omega)) (zt (x0 ++ [32] ++ x1 ++ [32]) x2 (by simp only [List.length_append, List.length_cons, List.length_nil]; omega) (by omega)) (zb (x0 ++ [32] ++ x1 ++ [32] ++ x2) (by (try simp only [List.length_append, List.length_cons, List.length_nil]); omega)) (zt (x0 ++ [32] ++ x1 ++ [32] ++ x2 ++ [32]) x3 (by simp only [List.length_append, List.length_cons, List.length_nil]; omega) (by omega)) (zb (x0 ++ [32] ++ x1 ++ [32] ++ x2 ++ [32] ++ x3) (by (try simp only [List.length_append, List.length_cons, List.length_nil]); omega)) (zt (x0 ++ [32] ++ x1 ++ [32] ++ x2 ++ [32] ++ x3 ++ [32]) x4 (by simp only [List.length_append, List.length_cons, List.length_nil]; omega) (by omega)) (zb (x0 ++ [32] ++ x1 ++ [32] ++ x2 ++ [32] ++ x3 ++ [32] ++ x4) (by (try simp only [List.length_append, List.length_cons, List.length_nil]); omega)) (zt (x0 ++ [32] ++ x1 ++ [32] ++ x2 ++ [32] ++ x3 ++ [32] ++ x4 ++ [32]) x5 (by simp only [List.length_append, List.length_cons, List.length_nil]; omega) (by omega)) (zb (x0 ++ [32] ++ x1 ++ [32] ++ x2 ++ [32] ++ x3 ++ [32] ++ x4 ++ [32] ++ x5) (by (try simp only [List.length_append, List.length_cons, List.length_nil]); omega)) (zt (x0 ++ [32] ++ x1 ++ [32] ++ x2 ++ [32] ++ x3 ++ [32] ++ x4 ++ [32] ++ x5 ++ [32]) x6 (by simp only [List.length_append, List.length_cons, List.length_nil]; omega) (by omega)) (zb (x0 ++ [32] ++ x1 ++ [32] ++ x2 ++ [32] ++ x3 ++ [32] ++ x4 ++ [32] ++ x5 ++ [32] ++ x6) (by (try simp only [List.length_append, List.length_cons, List.length_nil]); omega)) (zt (x0 ++ [32] ++ x1 ++ [32] ++ x2 ++ [32] ++ x3 ++ [32] ++ x4 ++ [32] ++ x5 ++ [32] ++ x6 ++ [32]) x7 (by simp only [List.length_append, List.length_cons, List.length_nil]; omega) (by omega)) (zb (x0 ++ [32] ++ x1 ++ [32] ++ x2 ++ [32] ++ x3 ++ [32] ++ x4 ++ [32] ++ x5 ++ [32] ++ x6 ++ [32] ++ x7) (by (try simp only [List.length_append, List.length_cons, List.length_nil]); omega)) (zt (x0 ++ [32] ++ x1 ++ [32] ++ x2 ++ [32] ++ x3 ++ [32] ++ x4 ++ [32] ++ x5 ++ [32] ++ x6 ++ [32] ++ x7 ++ [32]) x8 (by simp only [List.length_append, List.length_cons, List.length_nil]; omega) (by omega))
theorem words_4 (g t p pg u : Int) (key sb sa : ByteArray) (hb ha : Bool) : words 4 g t p pg key hb sb ha sa u = [nameTexts.getD 4 [], Lib.decDigits t.toNat, Lib.decDigits g.toNat, Lib.decDigits p.toNat, Lib.decDigits u.toNat] := rfl
set_option maxHeartbeats 1000000 in
theorem printP_4 (g t p pg u : Int) (key sb sa : ByteArray) (hb ha : Bool) (w : World) (hr : rcOk 4 g t p pg key hb sb ha sa u = true) (hN : ∀ i, i < 7 → w.cell? ⟨0, i, none⟩ = some (.string (txt (nameTexts.getD i [])))) (hT : Tab w) :
    Calls Tryd.prog 12 #[.agg #[.int .i64 4, .int .i64 g, .int .i64 t, .int .i64 p, .int .i64 pg, .string key, .bool hb, .string sb, .bool ha, .string sa, .int .i64 u]] w fun e w' => e = .returned (.string (prt 4 g t p pg key hb sb ha sa u)) ∧ Below w.heap.size w w' := by
  obtain ⟨a1, a2, a3, a4, a5, a6, a7, a8⟩ := rcOk_num hr
  obtain ⟨u1, u2⟩ := rcOk_u hr
  have l0 : (nameTexts.getD 4 []).length ≤ 50 := by decide
  have l1 := dec_len50 (n := t) (by omega)
  have l2 := dec_len50 (n := g) (by omega)
  have l3 := dec_len50 (n := p) (by omega)
  have l8 := dec_len50 (n := u) (by omega)
  unfold prt
  rw [words_4]
  exact print_U 4 g t p pg u key sb sa (txt (nameTexts.getD 4 [])) (txt (Lib.decDigits t.toNat)) (txt (Lib.decDigits g.toNat)) (txt (Lib.decDigits p.toNat)) (txt (Lib.decDigits u.toNat)) hb ha w (by decide) hr (by decide) (by decide) (hN 4 (by decide)) hT (Lib.hid (fun W h => itoa_any t (by omega) (by omega) W h)) (Lib.hid (fun W h => itoa_any g (by omega) (by omega) W h)) (Lib.hid (fun W h => itoa_any p (by omega) (by omega) W h)) (Lib.hid (fun W h => itoa_any u (by omega) (by omega) W h)) (join_len (x := nameTexts.getD 4 []) (r := [Lib.decDigits t.toNat, Lib.decDigits g.toNat, Lib.decDigits p.toNat, Lib.decDigits u.toNat]) (by intro z hz; simp only [List.mem_cons, List.not_mem_nil, or_false] at hz; rcases hz with rfl | rfl | rfl | rfl | rfl <;> assumption) (by simp only [List.length_cons, List.length_nil]; omega))
set_option maxHeartbeats 2000000 in
theorem refP_4 (g t p pg u : Int) (key sb sa : ByteArray) (hb ha : Bool) (w : World) (hr : rcOk 4 g t p pg key hb sb ha sa u = true) :
    Calls Tryd.prog 13 #[.agg #[.int .i64 4, .int .i64 g, .int .i64 t, .int .i64 p, .int .i64 pg, .string key, .bool hb, .string sb, .bool ha, .string sa, .int .i64 u]] w fun e w' => e = .returned (.string (prt 4 g t p pg key hb sb ha sa u)) ∧ Below w.heap.size w w' := by
  obtain ⟨a1, a2, a3, a4, a5, a6, a7, a8⟩ := rcOk_num hr
  obtain ⟨u1, u2⟩ := rcOk_u hr
  have l0 : (nameTexts.getD 4 []).length ≤ 50 := by decide
  have l1 := dec_len50 (n := t) (by omega)
  have l2 := dec_len50 (n := g) (by omega)
  have l3 := dec_len50 (n := p) (by omega)
  have l8 := dec_len50 (n := u) (by omega)
  unfold prt
  rw [words_4]
  have KI := @refPrint_4 g t p pg u key sb sa (txt (nameTexts.getD 4 [])) (txt (Lib.decDigits t.toNat)) (txt (Lib.decDigits g.toNat)) (txt (Lib.decDigits p.toNat)) (txt (Lib.decDigits u.toNat))
  have i1 := (Lib.hid (fun W => number_any t W (by omega) (by omega)))
  have i2 := (Lib.hid (fun W => number_any g W (by omega) (by omega)))
  have i3 := (Lib.hid (fun W => number_any p W (by omega) (by omega)))
  have i4 := (Lib.hid (fun W => number_any u W (by omega) (by omega)))
  have hB : (⟨#[115, 97, 118, 101]⟩ : ByteArray) = txt (nameTexts.getD 4 []) := rfl
  generalize nameTexts.getD 4 [] = x0 at *
  generalize Lib.decDigits t.toNat = x1 at *
  generalize Lib.decDigits g.toNat = x2 at *
  generalize Lib.decDigits p.toNat = x3 at *
  generalize Lib.decDigits u.toNat = x4 at *
  have hJ : txt (Lib.join [x0, x1, x2, x3, x4] [32]) = txt (x0 ++ [32] ++ x1 ++ [32] ++ x2 ++ [32] ++ x3 ++ [32] ++ x4) := congrArg txt (by simp [Lib.join_cons, Lib.joinTail])
  rw [hJ]
  exact KI (txt (x0 ++ [32])) (txt (x0 ++ [32] ++ x1)) (txt (x0 ++ [32] ++ x1 ++ [32])) (txt (x0 ++ [32] ++ x1 ++ [32] ++ x2)) (txt (x0 ++ [32] ++ x1 ++ [32] ++ x2 ++ [32])) (txt (x0 ++ [32] ++ x1 ++ [32] ++ x2 ++ [32] ++ x3)) (txt (x0 ++ [32] ++ x1 ++ [32] ++ x2 ++ [32] ++ x3 ++ [32])) (txt (x0 ++ [32] ++ x1 ++ [32] ++ x2 ++ [32] ++ x3 ++ [32] ++ x4)) hb ha w hB i1 i2 i3 i4 (txt_cat (x0) [32]) (txt_cat (x0 ++ [32]) x1) (txt_cat (x0 ++ [32] ++ x1) [32]) (txt_cat (x0 ++ [32] ++ x1 ++ [32]) x2) (txt_cat (x0 ++ [32] ++ x1 ++ [32] ++ x2) [32]) (txt_cat (x0 ++ [32] ++ x1 ++ [32] ++ x2 ++ [32]) x3) (txt_cat (x0 ++ [32] ++ x1 ++ [32] ++ x2 ++ [32] ++ x3) [32]) (txt_cat (x0 ++ [32] ++ x1 ++ [32] ++ x2 ++ [32] ++ x3 ++ [32]) x4) (zb (x0) (by (try simp only [List.length_append, List.length_cons, List.length_nil]); omega)) (zt (x0 ++ [32]) x1 (by simp only [List.length_append, List.length_cons, List.length_nil]; omega) (by omega)) (zb (x0 ++ [32] ++ x1) (by (try simp only [List.length_append, List.length_cons, List.length_nil]); omega)) (zt (x0 ++ [32] ++ x1 ++ [32]) x2 (by simp only [List.length_append, List.length_cons, List.length_nil]; omega) (by omega)) (zb (x0 ++ [32] ++ x1 ++ [32] ++ x2) (by (try simp only [List.length_append, List.length_cons, List.length_nil]); omega)) (zt (x0 ++ [32] ++ x1 ++ [32] ++ x2 ++ [32]) x3 (by simp only [List.length_append, List.length_cons, List.length_nil]; omega) (by omega)) (zb (x0 ++ [32] ++ x1 ++ [32] ++ x2 ++ [32] ++ x3) (by (try simp only [List.length_append, List.length_cons, List.length_nil]); omega)) (zt (x0 ++ [32] ++ x1 ++ [32] ++ x2 ++ [32] ++ x3 ++ [32]) x4 (by simp only [List.length_append, List.length_cons, List.length_nil]; omega) (by omega))
theorem words_5 (g t p pg u : Int) (key sb sa : ByteArray) (hb ha : Bool) : words 5 g t p pg key hb sb ha sa u = [nameTexts.getD 5 [], Lib.decDigits t.toNat, Lib.decDigits g.toNat, Lib.decDigits p.toNat] := rfl
set_option maxHeartbeats 1000000 in
theorem printP_5 (g t p pg u : Int) (key sb sa : ByteArray) (hb ha : Bool) (w : World) (hr : rcOk 5 g t p pg key hb sb ha sa u = true) (hN : ∀ i, i < 7 → w.cell? ⟨0, i, none⟩ = some (.string (txt (nameTexts.getD i [])))) (hT : Tab w) :
    Calls Tryd.prog 12 #[.agg #[.int .i64 5, .int .i64 g, .int .i64 t, .int .i64 p, .int .i64 pg, .string key, .bool hb, .string sb, .bool ha, .string sa, .int .i64 u]] w fun e w' => e = .returned (.string (prt 5 g t p pg key hb sb ha sa u)) ∧ Below w.heap.size w w' := by
  obtain ⟨a1, a2, a3, a4, a5, a6, a7, a8⟩ := rcOk_num hr
  obtain ⟨u1, u2⟩ := rcOk_u hr
  have l0 : (nameTexts.getD 5 []).length ≤ 50 := by decide
  have l1 := dec_len50 (n := t) (by omega)
  have l2 := dec_len50 (n := g) (by omega)
  have l3 := dec_len50 (n := p) (by omega)
  unfold prt
  rw [words_5]
  exact print_N 5 g t p pg u key sb sa (txt (nameTexts.getD 5 [])) (txt (Lib.decDigits t.toNat)) (txt (Lib.decDigits g.toNat)) (txt (Lib.decDigits p.toNat)) hb ha w (by decide) hr (by decide) (by decide) (hN 5 (by decide)) hT (Lib.hid (fun W h => itoa_any t (by omega) (by omega) W h)) (Lib.hid (fun W h => itoa_any g (by omega) (by omega) W h)) (Lib.hid (fun W h => itoa_any p (by omega) (by omega) W h)) (join_len (x := nameTexts.getD 5 []) (r := [Lib.decDigits t.toNat, Lib.decDigits g.toNat, Lib.decDigits p.toNat]) (by intro z hz; simp only [List.mem_cons, List.not_mem_nil, or_false] at hz; rcases hz with rfl | rfl | rfl | rfl <;> assumption) (by simp only [List.length_cons, List.length_nil]; omega))
set_option maxHeartbeats 2000000 in
theorem refP_5 (g t p pg u : Int) (key sb sa : ByteArray) (hb ha : Bool) (w : World) (hr : rcOk 5 g t p pg key hb sb ha sa u = true) :
    Calls Tryd.prog 13 #[.agg #[.int .i64 5, .int .i64 g, .int .i64 t, .int .i64 p, .int .i64 pg, .string key, .bool hb, .string sb, .bool ha, .string sa, .int .i64 u]] w fun e w' => e = .returned (.string (prt 5 g t p pg key hb sb ha sa u)) ∧ Below w.heap.size w w' := by
  obtain ⟨a1, a2, a3, a4, a5, a6, a7, a8⟩ := rcOk_num hr
  obtain ⟨u1, u2⟩ := rcOk_u hr
  have l0 : (nameTexts.getD 5 []).length ≤ 50 := by decide
  have l1 := dec_len50 (n := t) (by omega)
  have l2 := dec_len50 (n := g) (by omega)
  have l3 := dec_len50 (n := p) (by omega)
  unfold prt
  rw [words_5]
  have KI := @refPrint_5 g t p pg u key sb sa (txt (nameTexts.getD 5 [])) (txt (Lib.decDigits t.toNat)) (txt (Lib.decDigits g.toNat)) (txt (Lib.decDigits p.toNat))
  have i1 := (Lib.hid (fun W => number_any t W (by omega) (by omega)))
  have i2 := (Lib.hid (fun W => number_any g W (by omega) (by omega)))
  have i3 := (Lib.hid (fun W => number_any p W (by omega) (by omega)))
  have hB : (⟨#[99, 111, 109, 109, 105, 116]⟩ : ByteArray) = txt (nameTexts.getD 5 []) := rfl
  generalize nameTexts.getD 5 [] = x0 at *
  generalize Lib.decDigits t.toNat = x1 at *
  generalize Lib.decDigits g.toNat = x2 at *
  generalize Lib.decDigits p.toNat = x3 at *
  have hJ : txt (Lib.join [x0, x1, x2, x3] [32]) = txt (x0 ++ [32] ++ x1 ++ [32] ++ x2 ++ [32] ++ x3) := congrArg txt (by simp [Lib.join_cons, Lib.joinTail])
  rw [hJ]
  exact KI (txt (x0 ++ [32])) (txt (x0 ++ [32] ++ x1)) (txt (x0 ++ [32] ++ x1 ++ [32])) (txt (x0 ++ [32] ++ x1 ++ [32] ++ x2)) (txt (x0 ++ [32] ++ x1 ++ [32] ++ x2 ++ [32])) (txt (x0 ++ [32] ++ x1 ++ [32] ++ x2 ++ [32] ++ x3)) hb ha w hB i1 i2 i3 (txt_cat (x0) [32]) (txt_cat (x0 ++ [32]) x1) (txt_cat (x0 ++ [32] ++ x1) [32]) (txt_cat (x0 ++ [32] ++ x1 ++ [32]) x2) (txt_cat (x0 ++ [32] ++ x1 ++ [32] ++ x2) [32]) (txt_cat (x0 ++ [32] ++ x1 ++ [32] ++ x2 ++ [32]) x3) (zb (x0) (by (try simp only [List.length_append, List.length_cons, List.length_nil]); omega)) (zt (x0 ++ [32]) x1 (by simp only [List.length_append, List.length_cons, List.length_nil]; omega) (by omega)) (zb (x0 ++ [32] ++ x1) (by (try simp only [List.length_append, List.length_cons, List.length_nil]); omega)) (zt (x0 ++ [32] ++ x1 ++ [32]) x2 (by simp only [List.length_append, List.length_cons, List.length_nil]; omega) (by omega)) (zb (x0 ++ [32] ++ x1 ++ [32] ++ x2) (by (try simp only [List.length_append, List.length_cons, List.length_nil]); omega)) (zt (x0 ++ [32] ++ x1 ++ [32] ++ x2 ++ [32]) x3 (by simp only [List.length_append, List.length_cons, List.length_nil]; omega) (by omega))
theorem words_6 (g t p pg u : Int) (key sb sa : ByteArray) (hb ha : Bool) : words 6 g t p pg key hb sb ha sa u = [nameTexts.getD 6 [], Lib.decDigits t.toNat, Lib.decDigits g.toNat, Lib.decDigits p.toNat] := rfl
set_option maxHeartbeats 1000000 in
theorem printP_6 (g t p pg u : Int) (key sb sa : ByteArray) (hb ha : Bool) (w : World) (hr : rcOk 6 g t p pg key hb sb ha sa u = true) (hN : ∀ i, i < 7 → w.cell? ⟨0, i, none⟩ = some (.string (txt (nameTexts.getD i [])))) (hT : Tab w) :
    Calls Tryd.prog 12 #[.agg #[.int .i64 6, .int .i64 g, .int .i64 t, .int .i64 p, .int .i64 pg, .string key, .bool hb, .string sb, .bool ha, .string sa, .int .i64 u]] w fun e w' => e = .returned (.string (prt 6 g t p pg key hb sb ha sa u)) ∧ Below w.heap.size w w' := by
  obtain ⟨a1, a2, a3, a4, a5, a6, a7, a8⟩ := rcOk_num hr
  obtain ⟨u1, u2⟩ := rcOk_u hr
  have l0 : (nameTexts.getD 6 []).length ≤ 50 := by decide
  have l1 := dec_len50 (n := t) (by omega)
  have l2 := dec_len50 (n := g) (by omega)
  have l3 := dec_len50 (n := p) (by omega)
  unfold prt
  rw [words_6]
  exact print_N 6 g t p pg u key sb sa (txt (nameTexts.getD 6 [])) (txt (Lib.decDigits t.toNat)) (txt (Lib.decDigits g.toNat)) (txt (Lib.decDigits p.toNat)) hb ha w (by decide) hr (by decide) (by decide) (hN 6 (by decide)) hT (Lib.hid (fun W h => itoa_any t (by omega) (by omega) W h)) (Lib.hid (fun W h => itoa_any g (by omega) (by omega) W h)) (Lib.hid (fun W h => itoa_any p (by omega) (by omega) W h)) (join_len (x := nameTexts.getD 6 []) (r := [Lib.decDigits t.toNat, Lib.decDigits g.toNat, Lib.decDigits p.toNat]) (by intro z hz; simp only [List.mem_cons, List.not_mem_nil, or_false] at hz; rcases hz with rfl | rfl | rfl | rfl <;> assumption) (by simp only [List.length_cons, List.length_nil]; omega))
set_option maxHeartbeats 2000000 in
theorem refP_6 (g t p pg u : Int) (key sb sa : ByteArray) (hb ha : Bool) (w : World) (hr : rcOk 6 g t p pg key hb sb ha sa u = true) :
    Calls Tryd.prog 13 #[.agg #[.int .i64 6, .int .i64 g, .int .i64 t, .int .i64 p, .int .i64 pg, .string key, .bool hb, .string sb, .bool ha, .string sa, .int .i64 u]] w fun e w' => e = .returned (.string (prt 6 g t p pg key hb sb ha sa u)) ∧ Below w.heap.size w w' := by
  obtain ⟨a1, a2, a3, a4, a5, a6, a7, a8⟩ := rcOk_num hr
  obtain ⟨u1, u2⟩ := rcOk_u hr
  have l0 : (nameTexts.getD 6 []).length ≤ 50 := by decide
  have l1 := dec_len50 (n := t) (by omega)
  have l2 := dec_len50 (n := g) (by omega)
  have l3 := dec_len50 (n := p) (by omega)
  unfold prt
  rw [words_6]
  have KI := @refPrint_6 g t p pg u key sb sa (txt (nameTexts.getD 6 [])) (txt (Lib.decDigits t.toNat)) (txt (Lib.decDigits g.toNat)) (txt (Lib.decDigits p.toNat))
  have i1 := (Lib.hid (fun W => number_any t W (by omega) (by omega)))
  have i2 := (Lib.hid (fun W => number_any g W (by omega) (by omega)))
  have i3 := (Lib.hid (fun W => number_any p W (by omega) (by omega)))
  have hB : (⟨#[101, 110, 100]⟩ : ByteArray) = txt (nameTexts.getD 6 []) := rfl
  generalize nameTexts.getD 6 [] = x0 at *
  generalize Lib.decDigits t.toNat = x1 at *
  generalize Lib.decDigits g.toNat = x2 at *
  generalize Lib.decDigits p.toNat = x3 at *
  have hJ : txt (Lib.join [x0, x1, x2, x3] [32]) = txt (x0 ++ [32] ++ x1 ++ [32] ++ x2 ++ [32] ++ x3) := congrArg txt (by simp [Lib.join_cons, Lib.joinTail])
  rw [hJ]
  exact KI (txt (x0 ++ [32])) (txt (x0 ++ [32] ++ x1)) (txt (x0 ++ [32] ++ x1 ++ [32])) (txt (x0 ++ [32] ++ x1 ++ [32] ++ x2)) (txt (x0 ++ [32] ++ x1 ++ [32] ++ x2 ++ [32])) (txt (x0 ++ [32] ++ x1 ++ [32] ++ x2 ++ [32] ++ x3)) hb ha w hB i1 i2 i3 (txt_cat (x0) [32]) (txt_cat (x0 ++ [32]) x1) (txt_cat (x0 ++ [32] ++ x1) [32]) (txt_cat (x0 ++ [32] ++ x1 ++ [32]) x2) (txt_cat (x0 ++ [32] ++ x1 ++ [32] ++ x2) [32]) (txt_cat (x0 ++ [32] ++ x1 ++ [32] ++ x2 ++ [32]) x3) (zb (x0) (by (try simp only [List.length_append, List.length_cons, List.length_nil]); omega)) (zt (x0 ++ [32]) x1 (by simp only [List.length_append, List.length_cons, List.length_nil]; omega) (by omega)) (zb (x0 ++ [32] ++ x1) (by (try simp only [List.length_append, List.length_cons, List.length_nil]); omega)) (zt (x0 ++ [32] ++ x1 ++ [32]) x2 (by simp only [List.length_append, List.length_cons, List.length_nil]; omega) (by omega)) (zb (x0 ++ [32] ++ x1 ++ [32] ++ x2) (by (try simp only [List.length_append, List.length_cons, List.length_nil]); omega)) (zt (x0 ++ [32] ++ x1 ++ [32] ++ x2 ++ [32]) x3 (by simp only [List.length_append, List.length_cons, List.length_nil]; omega) (by omega))
theorem print_any (k g t p pg u : Int) (key sb sa : ByteArray) (hb ha : Bool) (w : World) (hr : rcOk k g t p pg key hb sb ha sa u = true) (hN : NamesAt w) (hT : Tab w) :
    Calls Tryd.prog 12 #[.agg #[.int .i64 k, .int .i64 g, .int .i64 t, .int .i64 p, .int .i64 pg, .string key, .bool hb, .string sb, .bool ha, .string sa, .int .i64 u]] w fun e w' => e = .returned (.string (prt k g t p pg key hb sb ha sa u)) ∧ Below w.heap.size w w' := by
  obtain ⟨a1, a2, _⟩ := rcOk_num hr
  rcases (show k = 1 ∨ k = 2 ∨ k = 3 ∨ k = 4 ∨ k = 5 ∨ k = 6 by omega) with rfl | rfl | rfl | rfl | rfl | rfl
  · exact printP_1 g t p pg u key sb sa hb ha w hr hN hT
  · exact printP_2 g t p pg u key sb sa hb ha w hr hN hT
  · exact printP_3 g t p pg u key sb sa hb ha w hr hN hT
  · exact printP_4 g t p pg u key sb sa hb ha w hr hN hT
  · exact printP_5 g t p pg u key sb sa hb ha w hr hN hT
  · exact printP_6 g t p pg u key sb sa hb ha w hr hN hT
theorem refPrint_any (k g t p pg u : Int) (key sb sa : ByteArray) (hb ha : Bool) (w : World) (hr : rcOk k g t p pg key hb sb ha sa u = true) :
    Calls Tryd.prog 13 #[.agg #[.int .i64 k, .int .i64 g, .int .i64 t, .int .i64 p, .int .i64 pg, .string key, .bool hb, .string sb, .bool ha, .string sa, .int .i64 u]] w fun e w' => e = .returned (.string (prt k g t p pg key hb sb ha sa u)) ∧ Below w.heap.size w w' := by
  obtain ⟨a1, a2, _⟩ := rcOk_num hr
  rcases (show k = 1 ∨ k = 2 ∨ k = 3 ∨ k = 4 ∨ k = 5 ∨ k = 6 by omega) with rfl | rfl | rfl | rfl | rfl | rfl
  · exact refP_1 g t p pg u key sb sa hb ha w hr
  · exact refP_2 g t p pg u key sb sa hb ha w hr
  · exact refP_3 g t p pg u key sb sa hb ha w hr
  · exact refP_4 g t p pg u key sb sa hb ha w hr
  · exact refP_5 g t p pg u key sb sa hb ha w hr
  · exact refP_6 g t p pg u key sb sa hb ha w hr
set_option maxHeartbeats 1000000 in
theorem print_no (k g t p pg u : Int) (key sb sa : ByteArray) (hb ha : Bool) (w : World) (hr : rcOk k g t p pg key hb sb ha sa u = false) :
    Calls Tryd.prog 12 #[.agg #[.int .i64 k, .int .i64 g, .int .i64 t, .int .i64 p, .int .i64 pg, .string key, .bool hb, .string sb, .bool ha, .string sa, .int .i64 u]] w fun e w' => e = .returned (.string ⟨#[]⟩) ∧ Below w.heap.size w w' := by
  have HR := Lib.hid (right_at k g t p pg u key sb sa hb ha)
  rw [hr] at HR
  clear hr
  go_enter Tryd.func12, Tryd.ntmps12
  go_wp2_with fail
  refine (HR.out _ _ ?_).mono ?_
  · exact rcIn_new _ _ _ _ _ _ _ _ _ _ _ _ _ _ (by rw [World.size_alloc])
  rintro x w1 ⟨rfl, hb1⟩
  go_wp2
  go_ret
  exact ⟨rfl, bw_call hb1 (bw_alloc (bw_alloc (Below.refl _ _)))⟩
theorem prt_some {k g t p pg u : Int} {key sb sa : ByteArray} {hb ha : Bool} (hr : rcOk k g t p pg key hb sb ha sa u = true) : (prt k g t p pg key hb sb ha sa u).toList ≠ [] := by
  obtain ⟨a1, a2, _⟩ := rcOk_num hr
  have hn : ∀ i : Fin 7, 0 < i.val → nameTexts.getD i.val [] ≠ [] := by decide +kernel
  rw [ByteArray.toList_eq]
  show Lib.join (words k g t p pg key hb sb ha sa u) [32] ≠ []
  unfold words
  rw [Lib.join_cons]
  intro h
  exact hn ⟨k.toNat, by omega⟩ (by show 0 < k.toNat; omega) (List.append_eq_nil_iff.1 h).1
end Go.Proofs.YtlggbbaigcnpjaaDoor
