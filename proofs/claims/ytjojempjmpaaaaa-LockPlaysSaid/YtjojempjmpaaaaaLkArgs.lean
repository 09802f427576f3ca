/-
  ARGUMENTS OPENED: a slice of acts on a table of locks.
-/
import Derived.Test.YtjojempjmpaaaaaLkSame
import Derived.ProofKit
import Derived.OpenShut
import Derived.Deep.Slices
import Derived.Deep.Fields
import Derived.SizedLaws
namespace Go.Proofs.Ytjojempjmpaaaaa
open Go.ChangeShapes Go.WideShapes Go.ChangeAt Go.RowKit
/-- An act. -/
structure La where
  kind : Int
  own : Int
  key : ByteArray
  wr : Bool
  ma : Option Addr
  mc : Nat
  more : List Int
def noLa : La := ⟨0, 0, ByteArray.empty, false, none, 0, []⟩
theorem IntsAt.below {W X : World} {a : Option Addr} {l : List Int} (h : IntsAt W a l) (hb : Below W.heap.size W X) : IntsAt X a l := by
  rcases h with h | ⟨b, off, e, h⟩
  · exact .inl h
  · exact .inr ⟨b, off, e, fun i hi => keep_cell hb (h i hi)⟩
structure LaOk (W : World) (x : La) : Prop where
  ow : (Lit.int .i64 x.own).wf = true
  ks : x.key.size ≤ maxLen
  ml : x.more.length ≤ maxLen
  mw : ∀ z ∈ x.more, (Lit.int .i64 z).wf = true
  m : IntsAt W x.ma x.more
theorem LaOk.below {W X : World} {x : La} (h : LaOk W x) (hb : Below W.heap.size W X) : LaOk X x := ⟨h.ow, h.ks, h.ml, h.mw, h.m.below hb⟩
def laV (x : La) : List Value := [.int .i64 x.kind, .int .i64 x.own, .string x.key, .bool x.wr, .slice x.ma x.more.length x.mc]
/-- Acts at a slice. -/
def LasAt (W : World) (a : Option Addr) (l : List La) : Prop := l = [] ∨ ∃ b off, a = some ⟨b, off, none⟩ ∧ ∀ i, i < l.length →
  (∀ j u, (laV (l.getD i noLa))[j]? = some u → W.cell? ⟨b, off + i * 5 + j, none⟩ = some u) ∧ LaOk W (l.getD i noLa)
theorem LasAt.below {W X : World} {a : Option Addr} {l : List La} (h : LasAt W a l) (hb : Below W.heap.size W X) : LasAt X a l := by
  rcases h with rfl | ⟨b, off, e, h⟩
  · exact .inl rfl
  · exact .inr ⟨b, off, e, fun i hi => ⟨fun j u hj => keep_cell hb ((h i hi).1 j u hj), (h i hi).2.below hb⟩⟩
section
variable {H : Type} {enc : TypeId × Value → H} {W : World} {n : Nat}
theorem one_ints {c : Value} {y : DataW H × List MemPlace} (h : DataW.trod enc Try.prog W 0 (fun _ => true) true n 32 [c] = some y) :
    ∃ a l cap, c = .slice a l.length cap ∧ (∀ z ∈ l, (Lit.int .i64 z).wf = true) ∧ l.length ≤ maxLen ∧ IntsAt W a l := by
  rcases open_ints Try.underlying32 Try.underlying3 (show Try.prog.cellsOf 3 = 1 by kernel_rfl) h with ⟨hcs, _⟩ | ⟨a, len, cap, zs, hcs, _, hl, hm, hz, _, hcell, hws⟩
  · simp at hcs
    exact ⟨none, [], 0, hcs, fun n hn => by simp at hn, by simp, .inl rfl⟩
  · simp at hcs
    simp only [if_true] at hz
    have hlen : (zs.take len).length = len := by rw [List.length_take]; omega
    refine ⟨some a, zs.take len, cap, by rw [hlen]; exact hcs, fun n hn => hws n (List.mem_of_mem_take hn), by omega, ?_⟩
    by_cases h0 : len = 0
    · left; subst h0; rfl
    · right
      obtain ⟨b, off, spot⟩ := a
      have hspot : spot = none := by simpa [Addr.add] using World.cell?_spot (hcell 0 (by omega))
      subst hspot
      refine ⟨b, off, rfl, fun i hi => ?_⟩
      rw [hlen] at hi
      have hp : (⟨b, off, none⟩ : Addr).add i = ⟨b, off + i, none⟩ := by unfold Addr.add; split <;> simp_all
      have := hcell i (by omega)
      rw [hp] at this
      rw [this]
      simp [List.getD_eq_getElem?_getD, hi]
theorem hone_int {c : Value} {y : DataW H × List MemPlace} (h : DataW.trod enc Try.prog W 0 (fun _ => true) true n 3 [c] = some y) : ∃ z, c = .int .i64 z ∧ (Lit.int .i64 z).wf = true := by
  obtain ⟨z, e, _, w⟩ := DataW.trod_int Try.underlying3 h
  exact ⟨z, by simpa using e, w⟩
theorem hone_str {c : Value} {y : DataW H × List MemPlace} (h : DataW.trod enc Try.prog W 0 (fun _ => true) true n 9 [c] = some y) : ∃ z, c = .string z ∧ z.size ≤ maxLen := by
  obtain ⟨z, e, _, w⟩ := DataW.trod_string Try.underlying9 h
  exact ⟨z, by simpa using e, w⟩
theorem hone_bool {c : Value} {y : DataW H × List MemPlace} (h : DataW.trod enc Try.prog W 0 (fun _ => true) true n 4 [c] = some y) : ∃ z, c = .bool z := by
  obtain ⟨z, e, _⟩ := DataW.trod_bool Try.underlying4 h
  exact ⟨z, by simpa using e⟩
theorem la_cells : Try.prog.cellsOf 34 = 5 := by kernel_rfl
theorem hlist5 {α : Type} {cs : List α} (h : cs.length = 5) : ∃ c0 c1 c2 c3 c4, cs = [c0, c1, c2, c3, c4] := by
  match cs, h with
  | [c0, c1, c2, c3, c4], _ => exact ⟨c0, c1, c2, c3, c4, rfl⟩
set_option maxRecDepth 100000 in
theorem la_one {cs : List Value} {y : DataW H × List MemPlace} (hl : cs.length = 5) (h : DataW.trod enc Try.prog W 0 (fun _ => true) true n 34 cs = some y) :
    ∃ x : La, cs = laV x ∧ LaOk W x := by
  obtain ⟨c0, c1, c2, c3, c4, rfl⟩ := hlist5 hl
  obtain ⟨xs, m, _, _, _, hlen, hx⟩ := DataW.trod_struct Try.underlying34 h
  match xs, hlen with
  | [y0, y1, y2, y3, y4], _ =>
    have t0 := hx 0 _ rfl
    have t1 := hx 1 _ rfl
    have t2 := hx 2 _ rfl
    have t3 := hx 3 _ rfl
    have t4 := hx 4 _ rfl
    obtain ⟨k, rfl, _⟩ := hone_int (c := c0) t0
    obtain ⟨o, rfl, wo⟩ := hone_int (c := c1) t1
    obtain ⟨s, rfl, ws⟩ := hone_str (c := c2) t2
    obtain ⟨b, rfl⟩ := hone_bool (c := c3) t3
    obtain ⟨a, l, cap, rfl, h1, h2, h3⟩ := one_ints (c := c4) t4
    exact ⟨⟨k, o, s, b, a, cap, l⟩, rfl, ⟨wo, ws, h2, h1, h3⟩⟩
theorem llist_of {P : Nat → La → Prop} (m : Nat) (h : ∀ i, i < m → ∃ x, P i x) : ∃ L : List La, L.length = m ∧ ∀ i, i < m → P i (L.getD i noLa) := by
  induction m with
  | zero => exact ⟨[], rfl, fun i hi => by omega⟩
  | succ m ih =>
    obtain ⟨L, hl, hp⟩ := ih (fun i hi => h i (by omega))
    obtain ⟨x, hx⟩ := h m (by omega)
    refine ⟨L ++ [x], by simp [hl], fun i hi => ?_⟩
    rw [List.getD_eq_getElem?_getD]
    by_cases e : i < m
    · rw [List.getElem?_append_left (by omega), ← List.getD_eq_getElem?_getD]; exact hp i e
    · have : i = m := by omega
      subst this
      rw [List.getElem?_append_right (by omega), hl]; simpa using hx
set_option maxRecDepth 100000 in
theorem las_open {base : Nat} {v : Value} {d : DataW H} {p : List MemPlace} (hv : Value.okWide Try.prog W .any base 22 v) (h : DataW.Trod enc Try.prog W 0 (fun _ => true) true 22 v d p) :
    ∃ (a : Option Addr) (L : List La) (cap : Nat), v = .slice a L.length cap ∧ L.length ≤ maxLen ∧ LasAt W a L := by
  obtain ⟨a0, len, cap, rfl⟩ := okWide_slice Try.underlying22 hv
  obtain ⟨fuel, hf⟩ := h
  rcases Go.Deep.open_slice Try.underlying22 hf with ⟨hcs, _⟩ | ⟨a, len', cap', m, k, D, Pl, hcs, _, hl, hm, hmm, _, hi⟩
  · simp [Value.cells] at hcs
    obtain ⟨rfl, rfl, rfl⟩ := hcs
    exact ⟨none, [], 0, rfl, by simp, .inl rfl⟩
  · simp [Value.cells] at hcs
    obtain ⟨rfl, rfl, rfl⟩ := hcs
    simp only [if_true] at hmm
    rw [la_cells] at hi
    by_cases h0 : len = 0
    · subst h0
      exact ⟨some a, [], cap, rfl, by simp, .inl rfl⟩
    · have hone : ∀ i, i < len → ∃ q : La, (∀ j u, (laV q)[j]? = some u → W.cell? ((a.add (i * 5)).add j) = some u) ∧ LaOk W q := fun i hil => by
        obtain ⟨cs', hc, ht⟩ := hi i (by omega)
        obtain ⟨_, hcl, hat⟩ := World.cells?_some hc
        obtain ⟨x, hx, hok⟩ := la_one hcl ht
        refine ⟨x, fun j u hj => ?_, hok⟩
        have hjl : j < 5 := by
          obtain ⟨hlt, _⟩ := List.getElem?_eq_some_iff.1 hj
          simpa [laV] using hlt
        rw [hat j hjl, hx]; exact hj
      obtain ⟨L, hL, hP⟩ := llist_of len hone
      obtain ⟨b, off, spot⟩ := a
      have hspot : spot = none := by
        have h1 := (hP 0 (by omega)).1 0 _ rfl
        simpa [Addr.add] using World.cell?_spot h1
      subst hspot
      have hp : ∀ i j, ((⟨b, off, none⟩ : Addr).add i).add j = ⟨b, off + i + j, none⟩ := fun i j => by unfold Addr.add; split <;> split <;> simp_all
      refine ⟨some ⟨b, off, none⟩, L, cap, by rw [hL], by omega, .inr ⟨b, off, rfl, fun i hil => ?_⟩⟩
      obtain ⟨h1, h2⟩ := hP i (by omega)
      refine ⟨fun j u hj => ?_, h2⟩
      have := h1 j u hj; rwa [hp] at this
end
/-- What is too much is refused. -/
def bigLa (x : La) : Bool := decide (100 < x.key.size) || decide (10 < x.more.length)
def greatL (l : List La) : Bool := decide (60 < l.length) || l.any bigLa
section
variable {W : World}
theorem LasAt.cells {a : Option Addr} {l : List La} (h : LasAt W a l) {i : Nat} (hi : i < l.length) : ∃ b off, a = some ⟨b, off, none⟩ ∧ W.cell? ⟨b, off + i * 5 + 0, none⟩ = some (.int .i64 l[i].kind) ∧ W.cell? ⟨b, off + i * 5 + 1, none⟩ = some (.int .i64 l[i].own) ∧ W.cell? ⟨b, off + i * 5 + 2, none⟩ = some (.string l[i].key) ∧ W.cell? ⟨b, off + i * 5 + 3, none⟩ = some (.bool l[i].wr) ∧ W.cell? ⟨b, off + i * 5 + 4, none⟩ = some (.slice l[i].ma l[i].more.length l[i].mc) ∧ LaOk W l[i] := by
  rcases h with rfl | ⟨b, off, e, h⟩
  · simp at hi
  · have h1 := h i hi
    have hg : l.getD i noLa = l[i] := by rw [List.getD_eq_getElem?_getD, List.getElem?_eq_getElem hi]; rfl
    rw [hg] at h1
    exact ⟨b, off, e, h1.1 0 _ rfl, h1.1 1 _ rfl, h1.1 2 _ rfl, h1.1 3 _ rfl, h1.1 4 _ rfl, h1.2⟩
set_option maxRecDepth 100000 in
set_option maxHeartbeats 2000000 in
theorem great14_any {a : Option Addr} {l : List La} {c : Nat} (hl : l.length ≤ maxLen) (h : LasAt W a l) :
    Calls Try.prog 7 #[.slice a l.length c] W fun e W' => e = .returned (.bool (greatL l)) ∧ Below W.heap.size W W' := by
  have HL := Lib.hid h
  clear h
  unfold maxLen at hl
  go_enter Try.func7, Try.ntmps7
  by_cases h60 : 60 < l.length
  · go_wp2
    go_ret
    exact ⟨by unfold greatL; simp [h60], Below.refl _ _⟩
  · have hli : (l.length : Int) ≤ 60 := by omega
    go_wp2
    go_loopw [3] (fun i wr => ∃ j : Nat, i = .int .i64 (j : Int) ∧ j ≤ l.length ∧ Hid ((l.take j).any bigLa = false) ∧ Hid (Below W.heap.size W wr)) (fun i _ => l.length - (intOf i).toNat)
    case atStart => exact ⟨0, rfl, Nat.zero_le _, by rw [List.take_zero]; rfl, Below.refl _ _⟩
    case round =>
      obtain ⟨j, rfl, hj, hany, hb⟩ := hrel
      rename World => wr
      by_cases hlt : j < l.length
      · obtain ⟨b, off, rfl, _, _, k2, _, k4, hok⟩ := (HL.out.below hb.out).cells hlt
        have htk : l.take (j + 1) = l.take j ++ [l[j]] := List.take_succ_eq_append_getElem hlt
        have HT := Lib.hid htk
        have HM : Hid (l[j] ∈ l) := List.getElem_mem hlt
        have hks := hok.ks
        have hml := hok.ml
        unfold maxLen at hks hml
        have HLT := Lib.hid hlt
        clear htk hok
        generalize l[j] = x at *
        have hb2 : Below W.heap.size W wr.drew := hb.out.drew
        by_cases h1 : 100 < x.key.size
        · go_wp2
          go_ret
          exact ⟨by unfold greatL; rw [List.any_eq_true.2 ⟨x, HM.out, by unfold bigLa; simp [h1]⟩]; simp, by first | exact hb.out | exact hb2⟩
        · by_cases h2 : 10 < x.more.length
          · go_wp2
            go_ret
            exact ⟨by unfold greatL; rw [List.any_eq_true.2 ⟨x, HM.out, by unfold bigLa; simp [h2]⟩]; simp, by first | exact hb.out | exact hb2⟩
          · have hx : bigLa x = false := by unfold bigLa; rw [decide_eq_false h1, decide_eq_false h2]; rfl
            have ha : (l.take (j + 1)).any bigLa = false := by rw [HT.out, List.any_append, hany.out, List.any_cons, hx]; rfl
            have HA := Lib.hid ha
            clear ha hx
            go_wp2
            go_roundw
            case rel => exact ⟨j + 1, by go_num, HLT.out, HA, by first | exact hb | exact hb2⟩
            case measure => simp [intOf]; have := HLT.out; omega
      · obtain rfl : j = l.length := by omega
        have h1 := hany.out
        rw [List.take_length] at h1
        go_wp2
        go_ret
        exact ⟨by unfold greatL; rw [h1]; simp [h60], hb.out⟩
end
end Go.Proofs.Ytjojempjmpaaaaa
