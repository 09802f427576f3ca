/-
  SpaceNotes: rows of needs; find.
-/
import Derived.Test.YtjjbdkgnkieliaaSpNotesP
import Derived.Test.YtjjbdkgnkieliaaSpBackRow
import Derived.Deep.RegionLaw
namespace Go.Proofs.Ytjjbdkgnkieliaa
open Go.RowKit
theorem keepc3 {w w' : World} {p : Addr} {v : Value} (hb : Below w.heap.size w w') (hc : w.cell? p = some v) : w'.cell? p = some v := (hb.cell (block_lt hc)).trans hc
theorem infoNd : (Try.prog.info? 33).map (fun i => (i.zero, i.size, i.bytes)) = some (some (.agg #[.int .i64 0, .int .i64 0, .int .i64 0]), 3, 24) := by kernel_rfl
theorem info_partsNd : ∃ i, Try.prog.info? 33 = some i ∧ i.zero = some (.agg #[.int .i64 0, .int .i64 0, .int .i64 0]) ∧ i.size = 3 ∧ i.bytes = 24 := by
  obtain ⟨i, hi, hzz⟩ := Option.map_eq_some_iff.1 infoNd
  simp only [Prod.mk.injEq] at hzz
  exact ⟨i, hi, hzz.1, hzz.2.1, hzz.2.2⟩
/-- A row of needs of the law's own. -/
def NdRow (w : World) (B : Nat) (v : Value) (L : List Nd) : Prop := w.ownsRow B 33 3 v L.length (flat3 L)
theorem NdRow.there {w : World} {B : Nat} {v : Value} {L : List Nd} (h : NdRow w B v L) (h0 : 0 < L.length) : ∃ g c, v = .slice (some ⟨g, 0, none⟩) L.length c ∧ L.length ≤ c ∧ B ≤ g := by
  rcases h.2 with ⟨rfl, h0⟩ | ⟨q, cap, cur, rfl, hb, _, hc, _⟩
  · omega
  · exact ⟨q, cap, rfl, hc, hb⟩
theorem NdRow.mono {w : World} {B B2 : Nat} {v : Value} {L : List Nd} (h : NdRow w B2 v L) (hb : B ≤ B2) : NdRow w B v L :=
  ⟨h.1, h.2.imp id fun ⟨g, c, cur, e, h2, rest⟩ => ⟨g, c, cur, e, Nat.le_trans hb h2, rest⟩⟩
theorem NdRow.form {w : World} {B : Nat} {v : Value} {L : List Nd} (h : NdRow w B v L) : ∃ a c, v = .slice a L.length c := by
  rcases h.2 with ⟨rfl, h0⟩ | ⟨q, cap, cur, rfl, _⟩
  · exact ⟨none, 0, by rw [h0]⟩
  · exact ⟨_, _, rfl⟩
theorem NdRow.cell {w : World} {B g cap n : Nat} {L : List Nd} (h : NdRow w B (.slice (some ⟨g, 0, none⟩) n cap) L) (i : Nat) (hi : i < L.length) : w.cell? ⟨g, i * 3, none⟩ = some (.int .i64 (L.getD i noNd).1) ∧ w.cell? ⟨g, i * 3 + 1, none⟩ = some (.int .i64 (L.getD i noNd).2.1) ∧ w.cell? ⟨g, i * 3 + 2, none⟩ = some (.int .i64 (L.getD i noNd).2.2) := by
  have h1 := flat3_at L i hi
  have hn : n = L.length := by
    rcases h.2 with ⟨e, _⟩ | ⟨q, cap, cur, e, _⟩
    · cases e
    · injection e with _ e _
  subst hn
  have hr : w.ownsRow B 33 3 (.slice (some ⟨g, 0, none⟩) L.length cap) L.length (flat3 L) := h
  rw [hr.cellAt (i * 3) (by omega), hr.cellAt (i * 3 + 1) (by omega), hr.cellAt (i * 3 + 2) (by omega), Nat.mul_comm i 3]
  exact h1
/-- Of a list: nothing ahead of place k is of this key. -/
def Ahead (t p : Int) (L : List Nd) (k : Nat) : Prop := ∀ j, j < k → ¬ isK t p (L.getD j noNd)
theorem Ahead.all {t p : Int} {L : List Nd} (h : Ahead t p L L.length) : NoKey t p L := fun x hx => by
  obtain ⟨i, hi, rfl⟩ := List.getElem_of_mem hx
  have := h i hi
  rwa [List.getD_eq_getElem?_getD, List.getElem?_eq_getElem hi] at this
/-- What find answers. -/
def FindP (t p : Int) (L : List Nd) (k : Int) : Prop := (k = -1 ∧ NoKey t p L) ∨ ∃ j : Nat, k = (j : Int) ∧ j < L.length ∧ isK t p (L.getD j noNd) ∧ Ahead t p L j
set_option maxHeartbeats 4000000 in
theorem find_any {w : World} {B : Nat} {v : Value} {L : List Nd} (hr : NdRow w B v L) (hL : L.length ≤ 1000) (t p : Int) : Calls Try.prog 20 #[v, .int .i64 t, .int .i64 p] w fun e w' => ∃ k, e = .returned (.int .i64 k) ∧ FindP t p L k ∧ w = w' := by
  obtain ⟨a0, c0, rfl⟩ := hr.form
  have HR := Lib.hid hr
  clear hr
  obtain ⟨n, hn⟩ : ∃ n, n = L.length := ⟨_, rfl⟩
  rw [← hn] at HR hL ⊢
  have HN := Lib.hid hn
  clear hn
  go_enter Try.func20, Try.ntmps20
  go_wp2
  go_loopw [7] (fun i w' => w = w' ∧ ∃ k : Nat, k ≤ n ∧ i = .int .i64 k ∧ Hid (Ahead t p L k)) (fun i _ => n - (intOf i).toNat)
  case atStart => exact ⟨rfl, 0, Nat.zero_le _, rfl, fun j hj => by omega⟩
  case round =>
    obtain ⟨rfl, k, hk, rfl, ha⟩ := hrel
    by_cases hlt : k < n
    · have hkl : k < L.length := by have := HN.out; omega
      obtain ⟨g, c, hv, _, _⟩ := HR.out.there (by omega)
      injection hv with hv1 hv2 hv3
      subst hv1
      obtain ⟨x0, x1, x2⟩ := HR.out.cell k hkl
      have HX : Hid (isK t p (L.getD k noNd) ↔ (L.getD k noNd).1 = t ∧ (L.getD k noNd).2.1 = p) := Iff.rfl
      obtain ⟨y, hy⟩ : ∃ y, y = L.getD k noNd := ⟨_, rfl⟩
      rw [← hy] at x0 x1 x2 HX
      obtain ⟨y0, y1, y2⟩ := y
      dsimp only at x0 x1 x2
      have HY := Lib.hid hy
      clear hy x2 hv2 hv3
      have hlt' : (k : Int) < (n : Int) := by omega
      by_cases e0 : y0 = t
      · by_cases e1 : y1 = p
        · have hF : Hid (FindP t p L (k : Int)) := .inr ⟨k, rfl, hkl, by rw [← HY.out]; exact ⟨e0, e1⟩, ha.out⟩
          subst e0 e1
          clear HX ha
          go_wp2
          go_ret
          exact ⟨_, rfl, hF.out, rfl⟩
        · have hA : Hid (Ahead t p L (k + 1)) := fun j hj => by
            by_cases e : j = k
            · subst e; rw [← HY.out]; exact fun q => e1 q.2
            · exact ha.out j (by omega)
          subst e0
          clear HX ha
          go_wp2
          go_round
          case rel => exact ⟨trivial, k + 1, by omega, by go_num, hA⟩
          case measure => simp [intOf]; omega
      · have hA : Hid (Ahead t p L (k + 1)) := fun j hj => by
          by_cases e : j = k
          · subst e; rw [← HY.out]; exact fun q => e0 q.1
          · exact ha.out j (by omega)
        clear HX ha
        go_wp2
        go_round
        case rel => exact ⟨trivial, k + 1, by omega, by go_num, hA⟩
        case measure => simp [intOf]; omega
    · have e : k = n := by omega
      subst e
      have hF : Hid (FindP t p L (-1)) := .inl ⟨rfl, Ahead.all (by rw [← HN.out]; exact ha.out)⟩
      clear ha
      go_wp2
      go_ret
      exact ⟨_, rfl, hF.out, rfl⟩
end Go.Proofs.Ytjjbdkgnkieliaa
