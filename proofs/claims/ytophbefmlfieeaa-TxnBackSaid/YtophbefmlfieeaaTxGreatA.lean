/-
  THE CONTRACT OF quadrigaref17.Great: of any records.
-/
import Derived.Test.YtophbefmlfieeaaTxIdsNil
namespace Go.Proofs.Ytophbefmlfieeaa
open Go.RowKit
/-- A record with short texts. -/
def Short (r : Rc) : Prop := r.key.size ≤ 100 ∧ r.sb.size ≤ 100 ∧ r.sa.size ≤ 100
def GrtP (l : List Rc) (W : World) (x : Ending) (w' : World) : Prop := ∃ b, x = .returned (.bool b) ∧ W = w' ∧ (b = false → l.length ≤ 60 ∧ ∀ i, i < l.length → Short (l.getD i noRc))
set_option maxRecDepth 100000 in
set_option maxHeartbeats 4000000 in
theorem great17_any {W : World} {a : Option Addr} {l : List Rc} (h : RcsAt W a l) (c : Nat) :
    Calls Try.prog 19 #[.slice a l.length c] W (GrtP l W) := by
  have HC := Lib.hid h
  clear h
  by_cases hg : (60 : Int) < (l.length : Int)
  · go_enter Try.func19, Try.ntmps19
    go_wp2
    go_ret
    exact ⟨true, rfl, rfl, fun e => by cases e⟩
  · have hl60 : l.length ≤ 60 := by omega
    have HL := Lib.hid hl60
    clear hl60
    go_enter Try.func19, Try.ntmps19
    go_wp2
    go_loopw [3] (fun i wr => ∃ n : Nat, n ≤ l.length ∧ i = .int .i64 n ∧ wr = W ∧ ∀ k, k < n → Short (l.getD k noRc)) (fun i _ => l.length - (intOf i).toNat)
    case atStart => exact ⟨0, Nat.zero_le _, rfl, rfl, fun k hk => by omega⟩
    case round =>
      obtain ⟨n, hn, rfl, rfl, hs⟩ := hrel
      have HS := Lib.hid hs
      clear hs
      by_cases hlt : n < l.length
      · obtain ⟨b, off, rfl, hcc⟩ : ∃ b off, a = some ⟨b, off, none⟩ ∧ ∀ i, i < l.length → wr.cell? ⟨b, off + i * 11, none⟩ = some (.int .i64 (l.getD i noRc).k) ∧ wr.cell? ⟨b, off + i * 11 + 1, none⟩ = some (.int .i64 (l.getD i noRc).g) ∧ wr.cell? ⟨b, off + i * 11 + 2, none⟩ = some (.int .i64 (l.getD i noRc).t) ∧ wr.cell? ⟨b, off + i * 11 + 3, none⟩ = some (.int .i64 (l.getD i noRc).p) ∧ wr.cell? ⟨b, off + i * 11 + 4, none⟩ = some (.int .i64 (l.getD i noRc).pg) ∧ wr.cell? ⟨b, off + i * 11 + 5, none⟩ = some (.string (l.getD i noRc).key) ∧ wr.cell? ⟨b, off + i * 11 + 6, none⟩ = some (.bool (l.getD i noRc).hb) ∧ wr.cell? ⟨b, off + i * 11 + 7, none⟩ = some (.string (l.getD i noRc).sb) ∧ wr.cell? ⟨b, off + i * 11 + 8, none⟩ = some (.bool (l.getD i noRc).ha) ∧ wr.cell? ⟨b, off + i * 11 + 9, none⟩ = some (.string (l.getD i noRc).sa) ∧ wr.cell? ⟨b, off + i * 11 + 10, none⟩ = some (.int .i64 (l.getD i noRc).u) := by
          rcases HC.out with h | h
          · rw [h] at hlt; simp at hlt
          · exact h
        obtain ⟨_, _, _, _, _, c5, _, c7, _, c9, _⟩ := hcc n hlt
        clear hcc
        obtain ⟨s, hs⟩ : ∃ s, s = l.getD n noRc := ⟨_, rfl⟩
        rw [← hs] at c5 c7 c9
        have HSE := Lib.hid hs
        clear hs
        by_cases g1 : (100 : Int) < (s.key.size : Int)
        · go_wp2
          go_ret
          exact ⟨true, rfl, rfl, fun e => by cases e⟩
        · by_cases g2 : (100 : Int) < (s.sb.size : Int)
          · go_wp2
            go_ret
            exact ⟨true, rfl, rfl, fun e => by cases e⟩
          · by_cases g3 : (100 : Int) < (s.sa.size : Int)
            · go_wp2
              go_ret
              exact ⟨true, rfl, rfl, fun e => by cases e⟩
            · have HG : Hid (Short s) := ⟨by omega, by omega, by omega⟩
              go_wp2
              go_roundw
              case rel => exact ⟨n + 1, by omega, by go_num, trivial, fun k hk => by
                by_cases e : k = n
                · rw [e, ← HSE.out]; exact HG.out
                · exact HS.out k (by omega)⟩
              case measure => simp [intOf]; omega
      · have he : n = l.length := by omega
        subst he
        go_wp2
        go_ret
        exact ⟨false, rfl, rfl, fun _ => ⟨HL.out, HS.out⟩⟩
end Go.Proofs.Ytophbefmlfieeaa
