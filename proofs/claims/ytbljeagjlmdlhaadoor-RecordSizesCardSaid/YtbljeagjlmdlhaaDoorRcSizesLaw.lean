/-
  THE WALK OF quadrigalaw04.RecordSizes, put together.
-/
import Derived.Test.YtbljeagjlmdlhaaDoorRcSizesA
import Derived.Test.YtbljeagjlmdlhaaDoorRcSizesB
import Derived.Test.YtbljeagjlmdlhaaDoorRcSizesC
import Derived.Test.YtbljeagjlmdlhaaDoorRcSizesD
namespace Go.Proofs.YtbljeagjlmdlhaaDoor
open Go.RowKit

set_option maxHeartbeats 1000000 in
theorem sizes_great (k g t p pg u txn prev gsn : Int) (key sb sa : ByteArray) (hb ha : Bool) (w : World) (hn : NameAt w) (hG : rcGreat key sb sa = true) :
    Calls Tryd.prog 7 #[.agg #[.int .i64 k, .int .i64 g, .int .i64 t, .int .i64 p, .int .i64 pg, .string key, .bool hb, .string sb, .bool ha, .string sa, .int .i64 u], .int .i64 txn, .int .i64 prev, .int .i64 gsn] w fun e w' => e = .returned (.bool true) ∧ Below w.heap.size w w' := by
  have KA := Lib.hid (fun W (hW : Below w.heap.size w W) => awake_rc W (hn.below hW))
  have KG := Lib.hid (fun W => great_rc k g t p pg u key sb sa hb ha W)
  rw [hG] at KG
  clear hG hn
  go_enter Tryd.func7, Tryd.ntmps7
  go_wp2_with fail
  refine (KG.out _).mono ?_
  rintro x w1 ⟨rfl, hb1⟩
  have hw1 : Below w.heap.size w w1 := bw_call hb1 (bw_alloc (Below.refl _ _))
  go_wp2_with fail
  refine (KA.out _ hw1).mono ?_
  rintro x w5 ⟨rfl, hb5⟩
  go_wp2
  go_ret
  exact ⟨rfl, bw_call hb5 hw1⟩
theorem recordSizes_walk (k g t p pg u txn prev gsn : Int) (key sb sa : ByteArray) (hb ha : Bool) (w : World) (hn : NameAt w) :
    Calls Tryd.prog 7 #[.agg #[.int .i64 k, .int .i64 g, .int .i64 t, .int .i64 p, .int .i64 pg, .string key, .bool hb, .string sb, .bool ha, .string sa, .int .i64 u], .int .i64 txn, .int .i64 prev, .int .i64 gsn] w fun e w' => e = .returned (.bool true) ∧ Below w.heap.size w w' := by
  cases hG : rcGreat key sb sa
  · by_cases h1 : k = 1
    · subst h1
      cases h : rcOk 1 g t p pg key hb sb ha sa u
      · exact sizes_1_f g t p pg u txn prev gsn key sb sa hb ha w hn hG h
      · cases hX : rcOk 1 gsn txn p pg key hb sb ha sa u
        · exact sizes_1_tf g t p pg u txn prev gsn key sb sa hb ha w hn hG h hX
        · exact sizes_1_tt g t p pg u txn prev gsn key sb sa hb ha w hn hG h hX
    · by_cases h3 : k = 3
      · subst h3
        cases h : rcOk 3 g t p pg key hb sb ha sa u
        · exact sizes_3_f g t p pg u txn prev gsn key sb sa hb ha w hn hG h
        · cases hX : rcOk 3 gsn txn prev pg key hb sb ha sa 1
          · exact sizes_3_tf g t p pg u txn prev gsn key sb sa hb ha w hn hG h hX
          · exact sizes_3_tt g t p pg u txn prev gsn key sb sa hb ha w hn hG h hX
      · by_cases h2 : k = 2
        · subst h2
          cases h : rcOk 2 g t p pg key hb sb ha sa u
          · exact sizes_2_f g t p pg u txn prev gsn key sb sa hb ha w hn hG h
          · cases hX : rcOk 2 gsn txn prev pg key hb sb ha sa u
            · cases hO : rcOk 3 gsn t prev pg key ha sa hb sb g
              · exact sizes_2_tff g t p pg u txn prev gsn key sb sa hb ha w hn hG h hX hO
              · exact sizes_2_tft g t p pg u txn prev gsn key sb sa hb ha w hn hG h hX hO
            · cases hO : rcOk 3 gsn t prev pg key ha sa hb sb g
              · exact sizes_2_ttf g t p pg u txn prev gsn key sb sa hb ha w hn hG h hX hO
              · exact sizes_2_ttt g t p pg u txn prev gsn key sb sa hb ha w hn hG h hX hO
        · cases h : rcOk k g t p pg key hb sb ha sa u
          · exact sizes_o_f k g t p pg u txn prev gsn key sb sa hb ha w hn hG h1 h2 h3 h
          · cases hX : rcOk k gsn txn prev pg key hb sb ha sa u
            · exact sizes_o_tf k g t p pg u txn prev gsn key sb sa hb ha w hn hG h1 h2 h3 h hX
            · exact sizes_o_tt k g t p pg u txn prev gsn key sb sa hb ha w hn hG h1 h2 h3 h hX
  · exact sizes_great k g t p pg u txn prev gsn key sb sa hb ha w hn hG
end Go.Proofs.YtbljeagjlmdlhaaDoor
