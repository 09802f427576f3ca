/-
  THE WALK OF quadrigalaw04.RecordPrints, put together.
-/
import Derived.Test.YtlggbbaigcnpjaaDoorRpLawB
import Derived.Test.YtlggbbaigcnpjaaDoorRpLawC
import Derived.Test.YtlggbbaigcnpjaaDoorRpLawD
namespace Go.Proofs.YtlggbbaigcnpjaaDoor
open Go.RowKit

set_option maxHeartbeats 1000000 in
theorem prints_great1 (k g t p pg u k2 g2 t2 p2 pg2 u2 : Int) (key sb sa key2 sb2 sa2 : ByteArray) (hb ha hb2 ha2 : Bool) (w : World) (hn : NameAt w) (hG : rcGreat key sb sa = true) :
    Calls Tryd.prog 4 #[.agg #[.int .i64 k, .int .i64 g, .int .i64 t, .int .i64 p, .int .i64 pg, .string key, .bool hb, .string sb, .bool ha, .string sa, .int .i64 u], .agg #[.int .i64 k2, .int .i64 g2, .int .i64 t2, .int .i64 p2, .int .i64 pg2, .string key2, .bool hb2, .string sb2, .bool ha2, .string sa2, .int .i64 u2]] w fun e w' => e = .returned (.bool true) ∧ Below w.heap.size w w' := by
  have KA := Lib.hid (fun W (hW : Below w.heap.size w W) => awake_rc W (hn.below hW))
  have KG := Lib.hid (fun W => great_rc k g t p pg u key sb sa hb ha W)
  rw [hG] at KG
  clear hG hn
  go_enter Tryd.func4, Tryd.ntmps4
  go_wp2_with fail
  refine (KG.out _).mono ?_
  rintro x w1 ⟨rfl, hb1⟩
  have hw1 : Below w.heap.size w w1 := bw_call hb1 (bw_alloc (bw_alloc (Below.refl _ _)))
  go_wp2_with fail
  refine (KA.out _ hw1).mono ?_
  rintro x w5 ⟨rfl, hb5⟩
  go_wp2
  go_ret
  exact ⟨rfl, bw_call hb5 hw1⟩
set_option maxHeartbeats 1000000 in
theorem prints_great2 (k g t p pg u k2 g2 t2 p2 pg2 u2 : Int) (key sb sa key2 sb2 sa2 : ByteArray) (hb ha hb2 ha2 : Bool) (w : World) (hn : NameAt w) (hG : rcGreat key sb sa = false) (hG2 : rcGreat key2 sb2 sa2 = true) :
    Calls Tryd.prog 4 #[.agg #[.int .i64 k, .int .i64 g, .int .i64 t, .int .i64 p, .int .i64 pg, .string key, .bool hb, .string sb, .bool ha, .string sa, .int .i64 u], .agg #[.int .i64 k2, .int .i64 g2, .int .i64 t2, .int .i64 p2, .int .i64 pg2, .string key2, .bool hb2, .string sb2, .bool ha2, .string sa2, .int .i64 u2]] w fun e w' => e = .returned (.bool true) ∧ Below w.heap.size w w' := by
  have KA := Lib.hid (fun W (hW : Below w.heap.size w W) => awake_rc W (hn.below hW))
  have KG := Lib.hid (fun W => great_rc k g t p pg u key sb sa hb ha W)
  rw [hG] at KG
  have KH := Lib.hid (fun W => great_rc k2 g2 t2 p2 pg2 u2 key2 sb2 sa2 hb2 ha2 W)
  rw [hG2] at KH
  clear hG hG2 hn
  go_enter Tryd.func4, Tryd.ntmps4
  go_wp2_with fail
  refine (KG.out _).mono ?_
  rintro x w1 ⟨rfl, hb1⟩
  have hw1 : Below w.heap.size w w1 := bw_call hb1 (bw_alloc (bw_alloc (Below.refl _ _)))
  obtain ⟨c0, c1, c2, c3, c4, c5, c6, c7, c8, c9, c10⟩ : w1.cell? ⟨w.heap.size + 1, 0, none⟩ = some (.int .i64 k2) ∧ w1.cell? ⟨w.heap.size + 1, 1, none⟩ = some (.int .i64 g2) ∧ w1.cell? ⟨w.heap.size + 1, 2, none⟩ = some (.int .i64 t2) ∧ w1.cell? ⟨w.heap.size + 1, 3, none⟩ = some (.int .i64 p2) ∧ w1.cell? ⟨w.heap.size + 1, 4, none⟩ = some (.int .i64 pg2) ∧ w1.cell? ⟨w.heap.size + 1, 5, none⟩ = some (.string key2) ∧ w1.cell? ⟨w.heap.size + 1, 6, none⟩ = some (.bool hb2) ∧ w1.cell? ⟨w.heap.size + 1, 7, none⟩ = some (.string sb2) ∧ w1.cell? ⟨w.heap.size + 1, 8, none⟩ = some (.bool ha2) ∧ w1.cell? ⟨w.heap.size + 1, 9, none⟩ = some (.string sa2) ∧ w1.cell? ⟨w.heap.size + 1, 10, none⟩ = some (.int .i64 u2) := by
    refine ⟨?_, ?_, ?_, ?_, ?_, ?_, ?_, ?_, ?_, ?_, ?_⟩ <;> exact keep_cell hb1 (new_cell (by rw [World.size_alloc]) rfl)
  clear hb1 KG
  go_wp2_with fail
  refine (KH.out _).mono ?_
  rintro x w2 ⟨rfl, hb2⟩
  have hw2 : Below w.heap.size w w2 := bw_call hb2 hw1
  go_wp2_with fail
  refine (KA.out _ hw2).mono ?_
  rintro x w5 ⟨rfl, hb5⟩
  go_wp2
  go_ret
  exact ⟨rfl, bw_call hb5 hw2⟩
theorem beq_no {a b : Int} (h : ¬ a = b) : (a == b) = false := by rw [beq_eq_false_iff_ne]; exact h
theorem ba_no {a b : ByteArray} (h : ¬ a = b) : (a.toList == b.toList) = false := by
  rw [beq_eq_false_iff_ne]
  exact fun e => h (ba_same (by rw [← ByteArray.toList_eq, ← ByteArray.toList_eq]; exact e))
theorem empty_no {a : ByteArray} (h : a.toList ≠ []) : a.toList.isEmpty = false := by rw [List.isEmpty_eq_false_iff]; exact h
set_option maxHeartbeats 1000000 in
theorem recordPrints_walk (k g t p pg u k2 g2 t2 p2 pg2 u2 : Int) (key sb sa key2 sb2 sa2 : ByteArray) (hb ha hb2 ha2 : Bool) (w : World) (hN : NamesAt w) (hT : Tab w) :
    Calls Tryd.prog 4 #[.agg #[.int .i64 k, .int .i64 g, .int .i64 t, .int .i64 p, .int .i64 pg, .string key, .bool hb, .string sb, .bool ha, .string sa, .int .i64 u], .agg #[.int .i64 k2, .int .i64 g2, .int .i64 t2, .int .i64 p2, .int .i64 pg2, .string key2, .bool hb2, .string sb2, .bool ha2, .string sa2, .int .i64 u2]] w fun e w' => e = .returned (.bool true) ∧ Below w.heap.size w w' := by
  have hn : NameAt w := hN 1 (by omega)
  have NB : ∀ {W : World}, Below w.heap.size w W → NamesAt W := fun hW i hi => keep_cell hW (hN i hi)
  have KA : Hid (∀ W, Hid (Below w.heap.size w W) → Calls Tryd.prog 6 #[] W fun e w' => e = .returned (.bool true) ∧ Below W.heap.size W w') := fun W hW => awake_rc W (hn.below hW.out)
  cases hG : rcGreat key sb sa
  case true => exact prints_great1 k g t p pg u k2 g2 t2 p2 pg2 u2 key sb sa key2 sb2 sa2 hb ha hb2 ha2 w hn hG
  cases hH : rcGreat key2 sb2 sa2
  case true => exact prints_great2 k g t p pg u k2 g2 t2 p2 pg2 u2 key sb sa key2 sb2 sa2 hb ha hb2 ha2 w hn hG hH
  have G1 := Lib.hid (fun W => great_rc k g t p pg u key sb sa hb ha W)
  rw [hG] at G1
  have G2 := Lib.hid (fun W => great_rc k2 g2 t2 p2 pg2 u2 key2 sb2 sa2 hb2 ha2 W)
  rw [hH] at G2
  have K1 := Lib.hid (fun W => refRight_any k g t p pg u key sb sa hb ha W)
  cases h1 : rcOk k g t p pg key hb sb ha sa u
  · rw [h1] at K1
    have P1 : Hid (∀ W, Hid (Below w.heap.size w W) → Calls Tryd.prog 12 #[.agg #[.int .i64 k, .int .i64 g, .int .i64 t, .int .i64 p, .int .i64 pg, .string key, .bool hb, .string sb, .bool ha, .string sa, .int .i64 u]] W fun e w' => e = .returned (.string ⟨#[]⟩) ∧ Below W.heap.size W w') := fun W _ => print_no k g t p pg u key sb sa hb ha W h1
    cases h2 : rcOk k2 g2 t2 p2 pg2 key2 hb2 sb2 ha2 sa2 u2
    · exact prints_wrong k g t p pg key hb sb ha sa u k2 g2 t2 p2 pg2 key2 hb2 sb2 ha2 sa2 u2 ⟨#[]⟩ w KA G1 G2 P1 (fun W _ => print_no k2 g2 t2 p2 pg2 u2 key2 sb2 sa2 hb2 ha2 W h2) K1
    · exact prints_wrong k g t p pg key hb sb ha sa u k2 g2 t2 p2 pg2 key2 hb2 sb2 ha2 sa2 u2 (prt k2 g2 t2 p2 pg2 key2 hb2 sb2 ha2 sa2 u2) w KA G1 G2 P1 (fun W hW => print_any k2 g2 t2 p2 pg2 u2 key2 sb2 sa2 hb2 ha2 W h2 (NB hW.out) (hT.below hW.out)) K1
  · rw [h1] at K1
    have P1 : Hid (∀ W, Hid (Below w.heap.size w W) → Calls Tryd.prog 12 #[.agg #[.int .i64 k, .int .i64 g, .int .i64 t, .int .i64 p, .int .i64 pg, .string key, .bool hb, .string sb, .bool ha, .string sa, .int .i64 u]] W fun e w' => e = .returned (.string (prt k g t p pg key hb sb ha sa u)) ∧ Below W.heap.size W w') := fun W hW => print_any k g t p pg u key sb sa hb ha W h1 (NB hW.out) (hT.below hW.out)
    have KR := Lib.hid (fun W => refPrint_any k g t p pg u key sb sa hb ha W h1)
    have s1 := prt_some h1
    have s2 := empty_no s1
    cases h2 : rcOk k2 g2 t2 p2 pg2 key2 hb2 sb2 ha2 sa2 u2
    · exact prints_one k g t p pg key hb sb ha sa u k2 g2 t2 p2 pg2 key2 hb2 sb2 ha2 sa2 u2 (prt k g t p pg key hb sb ha sa u) w KA G1 G2 P1 (fun W _ => print_no k2 g2 t2 p2 pg2 u2 key2 sb2 sa2 hb2 ha2 W h2) K1 KR s1 s2
    · have P2 : Hid (∀ W, Hid (Below w.heap.size w W) → Calls Tryd.prog 12 #[.agg #[.int .i64 k2, .int .i64 g2, .int .i64 t2, .int .i64 p2, .int .i64 pg2, .string key2, .bool hb2, .string sb2, .bool ha2, .string sa2, .int .i64 u2]] W fun e w' => e = .returned (.string (prt k2 g2 t2 p2 pg2 key2 hb2 sb2 ha2 sa2 u2)) ∧ Below W.heap.size W w') := fun W hW => print_any k2 g2 t2 p2 pg2 u2 key2 sb2 sa2 hb2 ha2 W h2 (NB hW.out) (hT.below hW.out)
      have s3 := prt_some h2
      have s4 := empty_no s3
      have INJ := fun e => prt_inj h1 h2 e
      generalize hPA : prt k g t p pg key hb sb ha sa u = PA at *
      generalize hPB : prt k2 g2 t2 p2 pg2 key2 hb2 sb2 ha2 sa2 u2 = PB at *
      clear hN NB hT hn hG hH h2
      by_cases e0 : k = k2
      case neg =>
        have hX : (PA.toList == PB.toList) = false := ba_no (fun e => e0 (INJ e).1)
        exact prints_d0 k g t p pg key hb sb ha sa u k2 g2 t2 p2 pg2 key2 hb2 sb2 ha2 sa2 u2 PA PB w KA G1 G2 P1 P2 K1 KR s1 s2 s3 s4 hX (beq_no e0)
      subst e0
      by_cases e1 : g = g2
      case neg =>
        have hX : (PA.toList == PB.toList) = false := ba_no (fun e => e1 (INJ e).2.1)
        exact prints_d1 k g t p pg key hb sb ha sa u g2 t2 p2 pg2 key2 hb2 sb2 ha2 sa2 u2 PA PB w KA G1 G2 P1 P2 K1 KR s1 s2 s3 s4 hX (beq_no e1)
      subst e1
      by_cases e2 : t = t2
      case neg =>
        have hX : (PA.toList == PB.toList) = false := ba_no (fun e => e2 (INJ e).2.2.1)
        exact prints_d2 k g t p pg key hb sb ha sa u t2 p2 pg2 key2 hb2 sb2 ha2 sa2 u2 PA PB w KA G1 G2 P1 P2 K1 KR s1 s2 s3 s4 hX (beq_no e2)
      subst e2
      by_cases e3 : p = p2
      case neg =>
        have hX : (PA.toList == PB.toList) = false := ba_no (fun e => e3 (INJ e).2.2.2.1)
        exact prints_d3 k g t p pg key hb sb ha sa u p2 pg2 key2 hb2 sb2 ha2 sa2 u2 PA PB w KA G1 G2 P1 P2 K1 KR s1 s2 s3 s4 hX (beq_no e3)
      subst e3
      by_cases e4 : pg = pg2
      case neg =>
        have hX : (PA.toList == PB.toList) = false := ba_no (fun e => e4 (INJ e).2.2.2.2.1)
        exact prints_d4 k g t p pg key hb sb ha sa u pg2 key2 hb2 sb2 ha2 sa2 u2 PA PB w KA G1 G2 P1 P2 K1 KR s1 s2 s3 s4 hX (beq_no e4)
      subst e4
      by_cases e5 : key = key2
      case neg =>
        have hX : (PA.toList == PB.toList) = false := ba_no (fun e => e5 (INJ e).2.2.2.2.2.1)
        exact prints_d5 k g t p pg key hb sb ha sa u key2 hb2 sb2 ha2 sa2 u2 PA PB w KA G1 G2 P1 P2 K1 KR s1 s2 s3 s4 hX (ba_no e5)
      subst e5
      by_cases e6 : hb = hb2
      case neg =>
        have hX : (PA.toList == PB.toList) = false := ba_no (fun e => e6 (INJ e).2.2.2.2.2.2.1)
        cases hb <;> cases hb2
        · exact absurd rfl e6
        · exact prints_d6f k g t p pg key sb ha sa u sb2 ha2 sa2 u2 PA PB w KA G1 G2 P1 P2 K1 KR s1 s2 s3 s4 hX
        · exact prints_d6t k g t p pg key sb ha sa u sb2 ha2 sa2 u2 PA PB w KA G1 G2 P1 P2 K1 KR s1 s2 s3 s4 hX
        · exact absurd rfl e6
      subst e6
      by_cases e7 : sb = sb2
      case neg =>
        have hX : (PA.toList == PB.toList) = false := ba_no (fun e => e7 (INJ e).2.2.2.2.2.2.2.1)
        exact prints_d7 k g t p pg key hb sb ha sa u sb2 ha2 sa2 u2 PA PB w KA G1 G2 P1 P2 K1 KR s1 s2 s3 s4 hX (ba_no e7)
      subst e7
      by_cases e8 : ha = ha2
      case neg =>
        have hX : (PA.toList == PB.toList) = false := ba_no (fun e => e8 (INJ e).2.2.2.2.2.2.2.2.1)
        cases ha <;> cases ha2
        · exact absurd rfl e8
        · exact prints_d8f k g t p pg key hb sb sa u sa2 u2 PA PB w KA G1 G2 P1 P2 K1 KR s1 s2 s3 s4 hX
        · exact prints_d8t k g t p pg key hb sb sa u sa2 u2 PA PB w KA G1 G2 P1 P2 K1 KR s1 s2 s3 s4 hX
        · exact absurd rfl e8
      subst e8
      by_cases e9 : sa = sa2
      case neg =>
        have hX : (PA.toList == PB.toList) = false := ba_no (fun e => e9 (INJ e).2.2.2.2.2.2.2.2.2.1)
        exact prints_d9 k g t p pg key hb sb ha sa u sa2 u2 PA PB w KA G1 G2 P1 P2 K1 KR s1 s2 s3 s4 hX (ba_no e9)
      subst e9
      by_cases e10 : u = u2
      case neg =>
        have hX : (PA.toList == PB.toList) = false := ba_no (fun e => e10 (INJ e).2.2.2.2.2.2.2.2.2.2)
        exact prints_d10 k g t p pg key hb sb ha sa u u2 PA PB w KA G1 G2 P1 P2 K1 KR s1 s2 s3 s4 hX (beq_no e10)
      subst e10
      have hPP : PA = PB := hPA.symm.trans hPB
      subst hPP
      exact prints_same k g t p pg key hb sb ha sa u PA w KA G1 G2 P1 P2 K1 KR s1 s2
end Go.Proofs.YtlggbbaigcnpjaaDoor
