/-
  THE CONTRACT OF record.needed.
-/
import Derived.Test.YtophbefmlfieeaaRcChanged
namespace Go.Proofs.Ytophbefmlfieeaa
open Go.RowKit

def rcNeed (k g t p pg : Int) (key : ByteArray) (hb : Bool) (sb : ByteArray) (ha : Bool) (sa : ByteArray) (u : Int) : Value := if (k == 2 || k == 3) then .agg #[.int .i64 k, .int .i64 g, .int .i64 t, .int .i64 p, .int .i64 pg, .string key, .bool hb, .string sb, .bool ha, .string sa, .int .i64 u] else .agg #[.int .i64 k, .int .i64 g, .int .i64 t, .int .i64 p, .int .i64 0, .string ⟨#[]⟩, .bool false, .string ⟨#[]⟩, .bool false, .string ⟨#[]⟩, .int .i64 u]
theorem read11 {W : World} {b : Nat} {T : TypeId} {v0 v1 v2 v3 v4 v5 v6 v7 v8 v9 v10 : Value} (h : b = W.heap.size) :
    let X := W.alloc (.cells #[v0, v1, v2, v3, v4, v5, v6, v7, v8, v9, v10] T)
    X.cell? ⟨b, 0, none⟩ = some v0 ∧ X.cell? ⟨b, 1, none⟩ = some v1 ∧ X.cell? ⟨b, 2, none⟩ = some v2 ∧ X.cell? ⟨b, 3, none⟩ = some v3 ∧ X.cell? ⟨b, 4, none⟩ = some v4 ∧ X.cell? ⟨b, 5, none⟩ = some v5 ∧ X.cell? ⟨b, 6, none⟩ = some v6 ∧ X.cell? ⟨b, 7, none⟩ = some v7 ∧ X.cell? ⟨b, 8, none⟩ = some v8 ∧ X.cell? ⟨b, 9, none⟩ = some v9 ∧ X.cell? ⟨b, 10, none⟩ = some v10 :=
  ⟨new_cell h rfl, new_cell h rfl, new_cell h rfl, new_cell h rfl, new_cell h rfl, new_cell h rfl, new_cell h rfl, new_cell h rfl, new_cell h rfl, new_cell h rfl, new_cell h rfl⟩
theorem needed_any (k g t p pg u : Int) (key sb sa : ByteArray) (hb ha : Bool) (w : World) :
    Calls Try.prog 64 #[.agg #[.int .i64 k, .int .i64 g, .int .i64 t, .int .i64 p, .int .i64 pg, .string key, .bool hb, .string sb, .bool ha, .string sa, .int .i64 u]] w
      fun e w' => e = .returned (rcNeed k g t p pg key hb sb ha sa u) ∧ Below w.heap.size w w' := by
  have H1 := fun W => changes_any k W
  have HB : ∀ o1 o2, Below w.heap.size w ((w.alloc o1).alloc o2) := fun o1 o2 => bw_alloc (bw_alloc (Below.refl w.heap.size w))
  by_cases hk : (k == 2 || k == 3) = true
  · have HR : Hid (rcNeed k g t p pg key hb sb ha sa u = .agg #[.int .i64 k, .int .i64 g, .int .i64 t, .int .i64 p, .int .i64 pg, .string key, .bool hb, .string sb, .bool ha, .string sa, .int .i64 u]) := Lib.hid (by unfold rcNeed; rw [if_pos hk])
    rw [hk] at H1
    clear hk
    generalize rcNeed k g t p pg key hb sb ha sa u = V at HR ⊢
    go_enter Try.func64, Try.ntmps64
    go_wp2_with fail
    refine (H1 _).mono ?_
    rintro x w1 ⟨rfl, rfl⟩
    go_wp2
    obtain ⟨c0, c1, c2, c3, c4, c5, c6, c7, c8, c9, c10⟩ := read11 (W := w.alloc (.cells #[.int .i64 k, .int .i64 g, .int .i64 t, .int .i64 p, .int .i64 pg, .string key, .bool hb, .string sb, .bool ha, .string sa, .int .i64 u] 38)) (b := w.heap.size + 1) (T := 38) (v0 := .int .i64 k) (v1 := .int .i64 g) (v2 := .int .i64 t) (v3 := .int .i64 p) (v4 := .int .i64 pg) (v5 := .string key) (v6 := .bool hb) (v7 := .string sb) (v8 := .bool ha) (v9 := .string sa) (v10 := .int .i64 u) (by rw [World.size_alloc])
    refine bodyPost_ret (v := .agg #[.int .i64 k, .int .i64 g, .int .i64 t, .int .i64 p, .int .i64 pg, .string key, .bool hb, .string sb, .bool ha, .string sa, .int .i64 u]) ?_ rfl ⟨by rw [HR.out], HB _ _⟩
    simp [results, Try.results64, go_sem, c0, c1, c2, c3, c4, c5, c6, c7, c8, c9, c10]
  · have HR : Hid (rcNeed k g t p pg key hb sb ha sa u = .agg #[.int .i64 k, .int .i64 g, .int .i64 t, .int .i64 p, .int .i64 0, .string ⟨#[]⟩, .bool false, .string ⟨#[]⟩, .bool false, .string ⟨#[]⟩, .int .i64 u]) := Lib.hid (by unfold rcNeed; rw [if_neg hk])
    have hk : (k == 2 || k == 3) = false := by simpa using hk
    rw [hk] at H1
    clear hk
    generalize rcNeed k g t p pg key hb sb ha sa u = V at HR ⊢
    go_enter Try.func64, Try.ntmps64
    go_wp2_with fail
    refine (H1 _).mono ?_
    rintro x w1 ⟨rfl, rfl⟩
    go_wp2
    obtain ⟨c0, c1, c2, c3, c4, c5, c6, c7, c8, c9, c10⟩ := read11 (W := w.alloc (.cells #[.int .i64 k, .int .i64 g, .int .i64 t, .int .i64 p, .int .i64 pg, .string key, .bool hb, .string sb, .bool ha, .string sa, .int .i64 u] 38)) (b := w.heap.size + 1) (T := 38) (v0 := .int .i64 k) (v1 := .int .i64 g) (v2 := .int .i64 t) (v3 := .int .i64 p) (v4 := .int .i64 0) (v5 := .string ⟨#[]⟩) (v6 := .bool false) (v7 := .string ⟨#[]⟩) (v8 := .bool false) (v9 := .string ⟨#[]⟩) (v10 := .int .i64 u) (by rw [World.size_alloc])
    refine bodyPost_ret (v := .agg #[.int .i64 k, .int .i64 g, .int .i64 t, .int .i64 p, .int .i64 0, .string ⟨#[]⟩, .bool false, .string ⟨#[]⟩, .bool false, .string ⟨#[]⟩, .int .i64 u]) ?_ rfl ⟨by rw [HR.out], HB _ _⟩
    simp [results, Try.results64, go_sem, c0, c1, c2, c3, c4, c5, c6, c7, c8, c9, c10]
end Go.Proofs.Ytophbefmlfieeaa
