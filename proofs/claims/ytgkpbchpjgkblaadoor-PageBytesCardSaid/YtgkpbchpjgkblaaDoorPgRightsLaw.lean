/-
  PageRights: THE LAW'S WALK.
-/
import Derived.Test.YtgkpbchpjgkblaaDoorPgAwake
import Derived.Test.YtgkpbchpjgkblaaDoorPgRef
namespace Go.Proofs.YtgkpbchpjgkblaaDoor
open Go.RowKit
/-- What stays there for all of a law's calls. -/
structure PgE (W : World) (a : Option Addr) (la : List (ByteArray × ByteArray)) (b : Option Addr) (lb : List (ByteArray × ByteArray)) : Prop where
  ca : ClsAt W a la
  cb : ClsAt W b lb
  tab : Tab W
theorem PgE.below {W X : World} {a : Option Addr} {la : List (ByteArray × ByteArray)} {b : Option Addr} {lb : List (ByteArray × ByteArray)} (hb : Below W.heap.size W X) (h : PgE W a la b lb) : PgE X a la b lb := ⟨h.ca.below hb, h.cb.below hb, h.tab.below hb⟩
theorem PgE.alloc {W : World} {o : Obj} {a : Option Addr} {la : List (ByteArray × ByteArray)} {b : Option Addr} {lb : List (ByteArray × ByteArray)} (h : PgE W a la b lb) : PgE (W.alloc o) a la b lb := PgE.below ((Below.refl _ _).alloc (Nat.le_refl _) _) h
theorem PgE.drew {W : World} {a : Option Addr} {la : List (ByteArray × ByteArray)} {b : Option Addr} {lb : List (ByteArray × ByteArray)} (h : PgE W a la b lb) : PgE W.drew a la b lb := PgE.below (Below.refl _ _).drew h
set_option maxRecDepth 100000 in
set_option maxHeartbeats 8000000 in
theorem pageRights_walk (na ga : Int) (aa : Option Addr) (la : List (ByteArray × ByteArray)) (ca : Nat) (nb gb : Int) (ab : Option Addr) (lb : List (ByteArray × ByteArray)) (cb : Nat) (key : ByteArray) (w : World) (hna : la.length ≤ maxLen) (hnb : lb.length ≤ maxLen) (ha : ClsAt w aa la) (hb : ClsAt w ab lb) (ht : Tab w) :
    Calls Tryd.prog 3 #[.agg #[.int .i64 na, .int .i64 ga, .slice aa la.length ca], .agg #[.int .i64 nb, .int .i64 gb, .slice ab lb.length cb], .string key] w fun e w' => e = .returned (.bool true) ∧ Below w.heap.size w w' := by
  have E0 := Lib.hid (PgE.mk (W := w) ha hb ht)
  have KGA := Lib.hid (fun W (h : PgE W aa la ab lb) => great_any na ga aa la ca W hna h.ca)
  have KGB := Lib.hid (fun W (h : PgE W aa la ab lb) => great_any nb gb ab lb cb W hnb h.cb)
  have KAW := Lib.hid (fun W (h : PgE W aa la ab lb) => awake11_any W h.tab)
  clear ha hb ht
  cases hqa : clGreat la with
  | true =>
    rw [hqa] at KGA
    clear hqa KGB
    go_enter Tryd.func3, Tryd.ntmps3
    go_wp2_with fail
    refine (KGA.out _ E0.out.alloc.alloc).mono ?_
    rintro e w1 ⟨rfl, hb1⟩
    have E1 := Lib.hid (PgE.below hb1 E0.out.alloc.alloc)
    have B1 := Lib.hid (bw_call hb1 (bw_alloc (bw_alloc (Below.refl _ w))))
    clear hb1 KGA
    go_wp2_with fail
    refine (KAW.out _ E1.out).mono ?_
    rintro e w2 ⟨rfl, hb2⟩
    have B2 := bw_call hb2 B1.out
    clear hb2
    go_wp2
    go_ret
    exact ⟨rfl, B2⟩
  | false =>
    obtain ⟨hl1, hl2⟩ := clGreat_no hqa
    rw [hqa] at KGA
    cases hqb : clGreat lb with
    | true =>
      rw [hqb] at KGB
      clear hqa hqb
      go_enter Tryd.func3, Tryd.ntmps3
      go_wp2_with fail
      refine (KGA.out _ E0.out.alloc.alloc).mono ?_
      rintro e w1 ⟨rfl, hb1⟩
      have E1 := Lib.hid (PgE.below hb1 E0.out.alloc.alloc)
      have B1 := Lib.hid (bw_call hb1 (bw_alloc (bw_alloc (Below.refl _ w))))
      have b0 : w1.cell? ⟨w.heap.size + 1, 0, none⟩ = some (.int .i64 nb) := keep_cell hb1 (new_cell (by rw [World.size_alloc]) rfl)
      have b1 : w1.cell? ⟨w.heap.size + 1, 1, none⟩ = some (.int .i64 gb) := keep_cell hb1 (new_cell (by rw [World.size_alloc]) rfl)
      have b2 : w1.cell? ⟨w.heap.size + 1, 2, none⟩ = some (.slice ab lb.length cb) := keep_cell hb1 (new_cell (by rw [World.size_alloc]) rfl)
      clear hb1 KGA
      go_wp2_with fail
      refine (KGB.out _ E1.out).mono ?_
      rintro e w2 ⟨rfl, hb2⟩
      have E2 := Lib.hid (PgE.below hb2 E1.out)
      have B2 := Lib.hid (bw_call hb2 B1.out)
      clear hb2 KGB b0 b1 b2
      go_wp2_with fail
      refine (KAW.out _ E2.out).mono ?_
      rintro e w3 ⟨rfl, hb3⟩
      have B3 := bw_call hb3 B2.out
      clear hb3
      go_wp2
      go_ret
      exact ⟨rfl, B3⟩
    | false =>
      obtain ⟨hl3, hl4⟩ := clGreat_no hqb
      rw [hqb] at KGB
      clear hqa hqb
      by_cases hkey : key.size ≤ 100
      · have hk1 : (key.size : Int) ≤ 100 := by omega
        have KR := Lib.hid (fun W (h : PgE W aa la ab lb) => right_any na ga aa la ca W hna h.ca)
        have KRR := Lib.hid (fun W (h : PgE W aa la ab lb) => refRight_any na ga aa la ca W hna h.ca)
        have KS := Lib.hid (fun W (h : PgE W aa la ab lb) => same_any na ga aa la ca nb gb ab lb cb W (by omega) h.ca h.cb)
        have KRS := Lib.hid (fun W (h : PgE W aa la ab lb) => refSame_any na ga aa la ca nb gb ab lb cb W (by omega) h.ca h.cb)
        have KG := Lib.hid (fun W (h : PgE W aa la ab lb) => get_any na ga aa la ca key W (by omega) h.ca)
        have KRG := Lib.hid (fun W (h : PgE W aa la ab lb) => refGet_any na ga aa la ca key W (by omega) h.ca)
        generalize pgOk na ga la = v1 at *
        generalize pgSame na ga la nb gb lb = v2 at *
        generalize (clGet la key).1 = v3 at *
        generalize (clGet la key).2 = v4 at *
        clear hl1 hl2 hl3 hl4
        go_enter Tryd.func3, Tryd.ntmps3
        go_wp2_with fail
        refine (KGA.out _ E0.out.alloc.alloc).mono ?_
        rintro e w1 ⟨rfl, hb1⟩
        have E1 := Lib.hid (PgE.below hb1 E0.out.alloc.alloc)
        have B1 := Lib.hid (bw_call hb1 (bw_alloc (bw_alloc (Below.refl _ w))))
        have a0 : Hid (w1.cell? ⟨w.heap.size, 0, none⟩ = some (.int .i64 na)) := keep_cell hb1 (keep_alloc (new_cell rfl rfl))
        have a1 : Hid (w1.cell? ⟨w.heap.size, 1, none⟩ = some (.int .i64 ga)) := keep_cell hb1 (keep_alloc (new_cell rfl rfl))
        have a2 : Hid (w1.cell? ⟨w.heap.size, 2, none⟩ = some (.slice aa la.length ca)) := keep_cell hb1 (keep_alloc (new_cell rfl rfl))
        have b0 : w1.cell? ⟨w.heap.size + 1, 0, none⟩ = some (.int .i64 nb) := keep_cell hb1 (new_cell (by rw [World.size_alloc]) rfl)
        have b1 : w1.cell? ⟨w.heap.size + 1, 1, none⟩ = some (.int .i64 gb) := keep_cell hb1 (new_cell (by rw [World.size_alloc]) rfl)
        have b2 : w1.cell? ⟨w.heap.size + 1, 2, none⟩ = some (.slice ab lb.length cb) := keep_cell hb1 (new_cell (by rw [World.size_alloc]) rfl)
        clear hb1 KGA
        go_wp2_with fail
        refine (KGB.out _ E1.out).mono ?_
        rintro e w2 ⟨rfl, hb2⟩
        have E2 := PgE.below hb2 E1.out
        have B2 := Lib.hid (bw_call hb2 B1.out)
        clear B1
        have p0 := keep_cell hb2 a0.out
        have p1 := keep_cell hb2 a1.out
        have p2 := keep_cell hb2 a2.out
        have q0 := keep_cell hb2 b0
        have q1 := keep_cell hb2 b1
        have q2 := keep_cell hb2 b2
        clear hb2 KGB a0 a1 a2 b0 b1 b2 E1
        obtain ⟨PB, hPB⟩ : ∃ x, x = w.heap.size + 1 := ⟨_, rfl⟩
        rw [← hPB] at q0 q1 q2 ⊢
        clear hPB
        obtain ⟨PA, hPA⟩ : ∃ x, x = w.heap.size := ⟨_, rfl⟩
        rw [← hPA] at p0 p1 p2 ⊢
        have HPA := Lib.hid hPA
        clear hPA
        go_upto_region 3 with fail
        go_region_held3 (fun w' => PgE w' aa la ab lb ∧ w'.cell? ⟨PA, 0, none⟩ = some (.int .i64 na) ∧ w'.cell? ⟨PA, 1, none⟩ = some (.int .i64 ga) ∧ w'.cell? ⟨PA, 2, none⟩ = some (.slice aa la.length ca) ∧ w'.cell? ⟨PB, 0, none⟩ = some (.int .i64 nb) ∧ w'.cell? ⟨PB, 1, none⟩ = some (.int .i64 gb) ∧ w'.cell? ⟨PB, 2, none⟩ = some (.slice ab lb.length cb))
          ((refine ⟨?_, ?_, ?_, ?_, ?_, ?_, ?_⟩ <;> (repeat (first | with_reducible assumption | with_reducible refine keep_alloc ?_ | with_reducible refine keep_drew ?_ | with_reducible refine keep_cell (by assumption) ?_ | with_reducible refine PgE.alloc ?_ | with_reducible refine PgE.drew ?_ | with_reducible refine PgE.below (by assumption) ?_))))
          (first
            | (go_at_call 9; refine (KR.out _ ?_).mono ?_; (focus ((repeat (first | with_reducible assumption | with_reducible refine PgE.alloc ?_ | with_reducible refine PgE.drew ?_ | with_reducible refine PgE.below (by assumption) ?_)); done)); rintro x w91 ⟨rfl, hb91⟩)
            | (go_at_call 10; refine (KRR.out _ ?_).mono ?_; (focus ((repeat (first | with_reducible assumption | with_reducible refine PgE.alloc ?_ | with_reducible refine PgE.drew ?_ | with_reducible refine PgE.below (by assumption) ?_)); done)); rintro x w92 ⟨rfl, hb92⟩)
            | (go_at_call 11; refine (KS.out _ ?_).mono ?_; (focus ((repeat (first | with_reducible assumption | with_reducible refine PgE.alloc ?_ | with_reducible refine PgE.drew ?_ | with_reducible refine PgE.below (by assumption) ?_)); done)); rintro x w93 ⟨rfl, hb93⟩)
            | (go_at_call 12; refine (KRS.out _ ?_).mono ?_; (focus ((repeat (first | with_reducible assumption | with_reducible refine PgE.alloc ?_ | with_reducible refine PgE.drew ?_ | with_reducible refine PgE.below (by assumption) ?_)); done)); rintro x w94 ⟨rfl, hb94⟩)
            | (go_at_call 13; refine (KG.out _ ?_).mono ?_; (focus ((repeat (first | with_reducible assumption | with_reducible refine PgE.alloc ?_ | with_reducible refine PgE.drew ?_ | with_reducible refine PgE.below (by assumption) ?_)); done)); rintro x w95 ⟨rfl, hb95⟩)
            | (go_at_call 14; refine (KRG.out _ ?_).mono ?_; (focus ((repeat (first | with_reducible assumption | with_reducible refine PgE.alloc ?_ | with_reducible refine PgE.drew ?_ | with_reducible refine PgE.below (by assumption) ?_)); done)); rintro x w96 ⟨rfl, hb96⟩)
            | (go_at_call 8; refine (KAW.out _ ?_).mono ?_; (focus ((repeat (first | with_reducible assumption | with_reducible refine PgE.alloc ?_ | with_reducible refine PgE.drew ?_ | with_reducible refine PgE.below (by assumption) ?_)); done)); rintro x w97 ⟨rfl, hb97⟩))
        all_goals go_wp2
        all_goals go_ret
        all_goals refine ⟨rfl, B2.out.trans (Below.mono ?_ B2.out.size)⟩
        all_goals ((repeat (first | with_reducible exact Below.refl _ _ | with_reducible refine bw_alloc ?_ | with_reducible refine bw_drew ?_ | with_reducible refine bw_call (by assumption) ?_)); done)
      · have hk1 : 100 < (key.size : Int) := by omega
        clear hl1 hl2 hl3 hl4
        go_enter Tryd.func3, Tryd.ntmps3
        go_wp2_with fail
        refine (KGA.out _ E0.out.alloc.alloc).mono ?_
        rintro e w1 ⟨rfl, hb1⟩
        have E1 := Lib.hid (PgE.below hb1 E0.out.alloc.alloc)
        have B1 := Lib.hid (bw_call hb1 (bw_alloc (bw_alloc (Below.refl _ w))))
        have b0 : w1.cell? ⟨w.heap.size + 1, 0, none⟩ = some (.int .i64 nb) := keep_cell hb1 (new_cell (by rw [World.size_alloc]) rfl)
        have b1 : w1.cell? ⟨w.heap.size + 1, 1, none⟩ = some (.int .i64 gb) := keep_cell hb1 (new_cell (by rw [World.size_alloc]) rfl)
        have b2 : w1.cell? ⟨w.heap.size + 1, 2, none⟩ = some (.slice ab lb.length cb) := keep_cell hb1 (new_cell (by rw [World.size_alloc]) rfl)
        clear hb1 KGA
        go_wp2_with fail
        refine (KGB.out _ E1.out).mono ?_
        rintro e w2 ⟨rfl, hb2⟩
        have E2 := Lib.hid (PgE.below hb2 E1.out)
        have B2 := Lib.hid (bw_call hb2 B1.out)
        clear hb2 KGB b0 b1 b2
        go_wp2_with fail
        refine (KAW.out _ E2.out).mono ?_
        rintro e w3 ⟨rfl, hb3⟩
        have B3 := bw_call hb3 B2.out
        clear hb3
        go_wp2
        go_ret
        exact ⟨rfl, B3⟩
end Go.Proofs.YtgkpbchpjgkblaaDoor
