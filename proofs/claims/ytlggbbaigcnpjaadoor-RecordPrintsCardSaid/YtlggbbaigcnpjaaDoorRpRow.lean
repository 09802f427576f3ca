/-
  WORDS IN A ROW OF THE CALL'S OWN, AND strings.Join OF THEM.
-/
import Derived.Test.YtlggbbaigcnpjaaDoorRpWords
import Derived.Deep.AppendLies
import Derived.Deep.RegionLawGrows
import Derived.Maps.AppendAt
namespace Go.Proofs.YtlggbbaigcnpjaaDoor
open Go.RowKit

theorem infoS : (Tryd.prog.info? 9).map (fun i => (i.zero, i.size, i.bytes)) = some (some (.string ⟨#[]⟩), 1, 16) := by kernel_rfl
theorem join_any (bk c : Nat) (xs : List ByteArray) (W : World) (hcells : ∀ (j : Nat) x, xs[j]? = some x → W.cell? ⟨bk, j, none⟩ = some (.string x)) (hbk : bk < W.heap.size) (hN : xs.length ≤ 100) (hcap : xs.length ≤ c) (hlen : (Lib.join (xs.map (·.data.toList)) [32]).length ≤ 100000) :
    Calls Tryd.prog 33 #[.slice (some ⟨bk, 0, none⟩) xs.length c, .string ⟨#[32]⟩] W fun e w' => e = .returned (.string (txt (Lib.join (xs.map (·.data.toList)) [32]))) ∧ Below W.heap.size W w' :=
  Tryd.strings_Join bk 0 c xs ⟨#[32]⟩ W (fun j x hj => by rw [Nat.zero_add]; exact hcells j x hj) hbk (by omega) hcap (Nat.le_trans hlen (by decide))

/-- A row of the call's own that holds these words. -/
def WordsAt (W : World) (G c : Nat) (xs : List ByteArray) : Prop := W.ownsRow 0 9 1 (.slice (some ⟨G, 0, none⟩) xs.length c) xs.length (xs.map Value.string)
theorem WordsAt.alloc {W : World} {G c : Nat} {xs : List ByteArray} (h : WordsAt W G c xs) {o : Obj} : WordsAt (W.alloc o) G c xs := World.ownsRow.alloc h o
theorem WordsAt.drew {W : World} {G c : Nat} {xs : List ByteArray} (h : WordsAt W G c xs) : WordsAt W.drew G c xs := World.ownsRow.drew h
theorem WordsAt.below {W W' : World} {G c : Nat} {xs : List ByteArray} (h : WordsAt W G c xs) (hb : Below W.heap.size W W') : WordsAt W' G c xs :=
  World.ownsRow.kept h (row := none) ⟨hb.os, hb.tape, hb.output, hb.size, fun k hk _ => hb.block k hk⟩ (.inr (fun e => by cases e))
theorem WordsAt.new {W : World} {G : Nat} {a b c d : ByteArray} (h : G = W.heap.size) : WordsAt (W.alloc (.cells #[.string a, .string b, .string c, .string d] 9)) G 4 [a, b, c, d] := by
  subst h
  exact World.ownsRow_lit W #[.string a, .string b, .string c, .string d] 4 (Nat.zero_le _) (by unfold maxLen; omega) rfl
theorem WordsAt.lt {W : World} {G c : Nat} {xs : List ByteArray} (h : WordsAt W G c xs) : G < W.heap.size := by
  rcases h.2 with ⟨e, _⟩ | ⟨g, cap, cur, e, _, hh, _⟩
  · cases e
  · simp only [Value.slice.injEq, Option.some.injEq, Addr.mk.injEq, and_true, true_and] at e
    obtain ⟨rfl, _⟩ := e
    rcases Nat.lt_or_ge G W.heap.size with h1 | h1
    · exact h1
    · rw [Array.getElem?_eq_none h1] at hh; cases hh
theorem WordsAt.cap {W : World} {G c : Nat} {xs : List ByteArray} (h : WordsAt W G c xs) : xs.length ≤ c := by
  rcases h.2 with ⟨e, _⟩ | ⟨g, cap, cur, e, _, _, hc, _⟩
  · cases e
  · simp only [Value.slice.injEq, Option.some.injEq, Addr.mk.injEq, and_true, true_and] at e
    obtain ⟨_, rfl⟩ := e
    exact hc
theorem WordsAt.join {W : World} {G c n : Nat} {xs : List ByteArray} (h : WordsAt W G c xs) (hn : xs.length = n) (h100 : n ≤ 100) (hlen : (Lib.join (xs.map (·.data.toList)) [32]).length ≤ 100000) :
    Calls Tryd.prog 33 #[.slice (some ⟨G, 0, none⟩) n c, .string ⟨#[32]⟩] W fun e w' => e = .returned (.string (txt (Lib.join (xs.map (·.data.toList)) [32]))) ∧ Below W.heap.size W w' := by
  subst hn
  refine join_any G c xs W (fun j x hj => ?_) h.lt h100 h.cap hlen
  obtain ⟨hlt, e⟩ := List.getElem?_eq_some_iff.1 hj
  rw [World.ownsRow.cellAt h j (by omega), List.getElem?_map, hj]; rfl
theorem words_form {W : World} {base n : Nat} {v : Value} {xs : List ByteArray} {ys : List Value} (h : W.ownsRow base 9 1 v n ys) (hy : ys = xs.map Value.string) (hn : xs.length = n) (h0 : 0 < n) :
    ∃ g c, v = .slice (some ⟨g, 0, none⟩) n c ∧ base ≤ g ∧ WordsAt W g c xs := by
  subst hn hy
  rcases h.2 with ⟨_, e⟩ | ⟨g, cap, cur, e, hb, hh, h1, h2, h3, h4⟩
  · omega
  · exact ⟨g, cap, e, hb, h.1, .inr ⟨g, cap, cur, rfl, Nat.zero_le _, hh, h1, h2, h3, h4⟩⟩
theorem grown_below {W W' : World} (h : W.grownBy W' none) : Below W.heap.size W W' := ⟨h.os, h.tape, h.output, h.size, fun k hk => h.block k hk (by simp)⟩
theorem WordsAt.cells {W : World} {G c : Nat} {xs : List ByteArray} (h : WordsAt W G c xs) : ∀ (j : Nat) (u : Value), (xs.map Value.string)[j]? = some u → W.cell? ((⟨G, 0, none⟩ : Addr).add j) = some u := fun j u hu => by
  have e : (⟨G, 0, none⟩ : Addr).add j = ⟨G, j, none⟩ := by unfold Addr.add; split <;> simp_all
  obtain ⟨hlt, _⟩ := List.getElem?_eq_some_iff.1 hu
  rw [List.length_map] at hlt
  rw [e, World.ownsRow.cellAt h j (by omega)]
  exact hu
end Go.Proofs.YtlggbbaigcnpjaaDoor
