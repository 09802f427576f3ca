/-
  THE CONTRACT OF an area's Get.
-/
import Derived.Test.YtckhdknehdjhoaaDoorArSize
import Derived.OwnWalk
import Derived.Lib.AppendStr
namespace Go.Proofs.YtckhdknehdjhoaaDoor
open Go.RowKit
/-- The bytes from a place on. -/
def getL (las : List (List UInt8)) (f : Int → Option (List UInt8)) (first count : Nat) : Nat → Nat → Nat → List UInt8
  | 0, _, _ => []
  | m + 1, at', size => if size = 0 then [] else
    ((secAt las f (pcQ first count at')).drop (pcA count at')).take (pcB count at' size - pcA count at') ++ getL las f first count m (at' + (pcB count at' size - pcA count at')) (size - (pcB count at' size - pcA count at'))
theorem pcQ_in {first count at' : Nat} (hc : 1 ≤ count) : first ≤ pcQ first count at' ∧ pcQ first count at' < first + count := by
  have h : at' % (64 * count) < 64 * count := Nat.mod_lt _ (by omega)
  have h2 : at' % (64 * count) / 64 < count := Nat.div_lt_of_lt_mul h
  unfold pcQ; omega
theorem pcA_lt (count at' : Nat) : pcA count at' < 64 := Nat.mod_lt _ (by omega)
theorem pcB_in (count at' : Nat) {size : Nat} (hs : 0 < size) : pcA count at' < pcB count at' size ∧ pcB count at' size ≤ 64 ∧ pcB count at' size - pcA count at' ≤ size := by
  have := pcA_lt count at'
  unfold pcB; omega
/-- The bytes hang on the area's sectors alone. -/
theorem getL_congr {las las2 : List (List UInt8)} {f f2 : Int → Option (List UInt8)} {first count : Nat} (hc : 1 ≤ count) (h : ∀ q, first ≤ q → q < first + count → secAt las f q = secAt las2 f2 q) : ∀ m at' size, getL las f first count m at' size = getL las2 f2 first count m at' size
  | 0, _, _ => rfl
  | m + 1, at', size => by
    unfold getL
    split
    · rfl
    · obtain ⟨a, b⟩ := pcQ_in (first := first) (at' := at') hc
      rw [h _ a b, getL_congr hc h m]
theorem ext_list (l : List UInt8) (a b : Nat) : ((txt l).extract a b).data.toList = (l.drop a).take (b - a) := by
  rw [ByteArray.data_extract, Array.toList_extract]; rfl
theorem infoB : (Tryd.prog.info? 5).map (fun i => (i.zero, i.size, i.bytes)) = some (some (.int .u8 0), 1, 1) := by kernel_rfl
/-- string(b) of a row of the call's own. -/
theorem bytes_str {w : World} {B : Nat} {v : Value} {l : List UInt8} (h : w.ownsRow B 5 1 v l.length (Lib.byteCells l)) :
    (convert 30 9 v).run Tryd.prog w = .ok (.string (txt l)) w := by
  rcases h.2 with ⟨hv, h0⟩ | ⟨g, c, cur, hv, _⟩
  · have : l = [] := List.length_eq_zero_iff.1 h0
    subst this
    rw [hv]
    exact run_convert_bytes_nil w 30 5 Tryd.underlying30 Tryd.underlying5 0 0 9 Tryd.underlying9
  · subst hv
    refine run_convert_bytes_back w 30 9 5 ⟨g, 0, none⟩ c l Tryd.underlying30 Tryd.underlying5 Tryd.underlying9 fun j hj => ?_
    have e : (⟨g, 0, none⟩ : Addr).add j = ⟨g, j, none⟩ := by unfold Addr.add; split <;> simp_all
    rw [e, h.cellAt j (by omega)]
    unfold Lib.byteCells
    rw [List.getElem?_map, List.getElem?_eq_getElem hj]; rfl
theorem secAt_len {W : World} {D P L M n k : Nat} {off : Bool} {u : Int} {armed : Bool} {lf : Int} {las : List (List UInt8)} {f : Int → Option (List UInt8)} (h : DevAt W D P L M n k off u armed lf las f) (hf : ∀ z l, f z = some l → l.length = 64) (q : Nat) (hq : q < n) : (secAt las f q).length = 64 := by
  unfold secAt
  cases e : f (q : Int) with
  | some l => exact hf _ _ e
  | none =>
    have hq2 : q < las.length := by rw [h.ll]; exact hq
    show (las.getD q blank64).length = 64
    rw [List.getD_eq_getElem?_getD, List.getElem?_eq_getElem hq2]
    exact h.l64 _ (List.getElem_mem _)
section
variable {W : World} {A D P L M n k first count : Nat} {u lf : Int} {las : List (List UInt8)} {f : Int → Option (List UInt8)}
set_option maxRecDepth 100000 in
set_option maxHeartbeats 4000000 in
theorem get_any (h : DevAt W D P L M n k false u false lf las f) (ha : ArAt W A D first count) (hf : ∀ z l, f z = some l → l.length = 64) (hn : first + count ≤ n ∧ n ≤ 4096) (at' size : Nat) (h0 : at' ≤ 4611686018427387904) (h1 : size ≤ 64 * count) :
    Calls Tryd.prog 12 #[.pointer (some ⟨A, 0, none⟩), .int .i64 (at' : Int), .int .i64 (size : Int)] W fun e w' => e = .returned (.tuple #[.string (txt (getL las f first count size at' size)), .int .i64 0]) ∧ Below W.heap.size W w' := by
  obtain ⟨ib, hi, hzz⟩ := Option.map_eq_some_iff.1 infoB
  simp only [Prod.mk.injEq] at hzz
  obtain ⟨hz0, hz1, hz2⟩ := hzz
  have KO := Lib.hid (open_yes h ha (at' : Int) (size : Int) ⟨by omega, by omega⟩ ⟨by omega, by omega⟩)
  have H := Lib.hid h
  have HA := Lib.hid ha
  have HF := Lib.hid hf
  have hc := ha.c
  have hs9 : size ≤ 300000 := by omega
  clear h ha hf
  go_enter Tryd.func12, Tryd.ntmps12
  go_wp2_with fail
  refine KO.out.mono ?_
  rintro e w1 ⟨rfl, rfl⟩
  clear KO
  go_wp2_with (at_make; refine wpList_make_own _ rfl _ _ 30 rfl w1.heap.size 5 ib (.int .u8 0) 1 Tryd.underlying30 hi hz0 hz1 _ _ _ size rfl rfl rfl ?b2 ?b3 (Nat.le_refl _) ?_)
  case b2 => rw [hz2]; omega
  case b3 => unfold maxLen; omega
  intro w0 hown0 hgrow0
  have hb0 : Below w1.heap.size w1 w0 := (Below.refl _ w1).grown hgrow0 (Nat.le_refl _) (fun k hk => by cases hk)
  have HO0 : Hid (w0.ownsRow w1.heap.size 5 1 (.slice (some ⟨w1.heap.size, 0, none⟩) 0 size) ([] : List UInt8).length (Lib.byteCells [])) := hown0
  have HB0 := Lib.hid hb0
  clear hown0 hgrow0 hb0
  go_wp2
  go_loopw [9] (fun v wr => ∃ (l : List UInt8) (m : Nat), l.length ≤ size ∧ size ≤ l.length + m ∧ Hid (l ++ getL las f first count m (at' + l.length) (size - l.length) = getL las f first count size at' size) ∧ Hid (wr.ownsRow w1.heap.size 5 1 v l.length (Lib.byteCells l)) ∧ Hid (Below w1.heap.size w1 wr)) (fun v _ => match v with | .slice _ l _ => size - l | _ => 0)
  case atStart => exact ⟨[], size, by simp, by simp, by simp [Hid], HO0, HB0⟩
  case round =>
    obtain ⟨l, m, hl, hm, hE, hown, hb⟩ := hrel
    rename World => wa
    clear HO0 HB0
    obtain ⟨g, cap, hv⟩ : ∃ g cap, u9 = .slice g l.length cap := by
      rcases hown.out.2 with ⟨hv, hz⟩ | ⟨g, cap, _, hv, _⟩
      · exact ⟨none, 0, by rw [hv, hz]⟩
      · exact ⟨_, _, hv⟩
    subst hv
    by_cases hlt : l.length < size
    · obtain ⟨m, rfl⟩ : ∃ m', m = m' + 1 := ⟨m - 1, by omega⟩
      have hs0 : 0 < size - l.length := by omega
      have KP := Lib.hid (piece_any (HA.out.below hb.out) (at' + l.length) (size - l.length) (by omega) (by omega))
      have e1 : ((at' + l.length : Nat) : Int) = (at' : Int) + (l.length : Int) := by omega
      have e2 : ((size - l.length : Nat) : Int) = (size : Int) - (l.length : Int) := by omega
      rw [e1, e2] at KP
      clear e1 e2
      obtain ⟨q0, q1⟩ := pcQ_in (first := first) (at' := at' + l.length) hc.1
      obtain ⟨b0, b1, b2⟩ := pcB_in count (at' + l.length) hs0
      have KR := Lib.hid (read_any (H.out.below hb.out) (pcQ first count (at' + l.length)) (by omega) hn.2 (fun l h => HF.out _ l h))
      have hsl := secAt_len H.out HF.out (pcQ first count (at' + l.length)) (by omega)
      have hX := Lib.hid (ext_list (secAt las f (pcQ first count (at' + l.length))) (pcA count (at' + l.length)) (pcB count (at' + l.length) (size - l.length)))
      have hT := txt_size (secAt las f (pcQ first count (at' + l.length)))
      have hG : Hid (getL las f first count (m + 1) (at' + l.length) (size - l.length) = ((secAt las f (pcQ first count (at' + l.length))).drop (pcA count (at' + l.length))).take (pcB count (at' + l.length) (size - l.length) - pcA count (at' + l.length)) ++ getL las f first count m (at' + l.length + (pcB count (at' + l.length) (size - l.length) - pcA count (at' + l.length))) (size - l.length - (pcB count (at' + l.length) (size - l.length) - pcA count (at' + l.length)))) := by
        rw [Hid, getL, if_neg (by omega)]
      rw [hG.out] at hE
      clear hG
      rw [hsl] at hT
      have ha0 := HA.out.below hb.out
      have hcell := ha0.a0
      clear ha0
      generalize pcQ first count (at' + l.length) = Q at *
      generalize pcB count (at' + l.length) (size - l.length) = b at *
      generalize pcA count (at' + l.length) = a at *
      have hxl : (((secAt las f Q).drop a).take (b - a)).length = b - a := by rw [List.length_take, List.length_drop, hsl]; omega
      generalize ((secAt las f Q).drop a).take (b - a) = x at hX hE hxl
      generalize txt (secAt las f Q) = T at KR hX hT
      have hXs : (T.extract a b).size = b - a := by rw [ByteArray.size_extract, hT]; omega
      have hA0 : (a : Int) ≤ (b : Int) := by omega
      have hB0 : (b : Int) ≤ (T.size : Int) := by omega
      have hlt1 : (l.length : Int) < (size : Int) := by omega
      have hcap9 : (at' : Int) + (l.length : Int) ≤ 9223372036854775807 := by omega
      clear hsl
      go_wp2_with fail
      refine KP.out.mono ?_
      rintro e w2 ⟨rfl, rfl⟩
      clear KP
      go_wp2_with fail
      refine KR.out.mono ?_
      rintro e w3 ⟨rfl, hb3⟩
      clear KR
      have hown3 := World.ownsRow.kept hown.out (w' := w3) (row := none) ⟨hb3.os, hb3.tape, hb3.output, hb3.size, fun k hk _ => hb3.block k hk⟩ (by
        cases (Value.slice g l.length cap).ownBlock with
        | none => exact .inl rfl
        | some k => exact .inr (fun e => by cases e))
      have hbw : Below w1.heap.size w1 w3 := hb.out.trans (hb3.mono hb.out.size)
      have hs3 := hbw.size
      clear hown hb hb3
      go_wp2_with (at_builtin; refine Lib.wpList_append_own_string _ rfl _ _ 30 9 rfl w1.heap.size 5 ib Tryd.underlying30 Tryd.underlying9 hi hz0 hz1 hz2 _ _ _ rfl hown3 (T.extract a b) rfl ?c3 ?c4 hs3 ?_)
      case c3 => unfold maxLen; omega
      case c4 => omega
      intro v' w4 hown4 hg4 _
      have hb4 : Hid (Below w1.heap.size w1 w4) := hbw.grown hg4 hs3 (fun k hk => (hown3.lt k hk).1)
      have hlen : l.length + (b - a) = (l ++ x).length := by rw [List.length_append, hxl]
      rw [hlen, Lib.strCells_eq, hX.out, ← Lib.byteCells_append] at hown4
      have HO := Lib.hid hown4
      have hl2 : (l ++ x).length = l.length + (b - a) := by rw [List.length_append, hxl]
      have hE2 : Hid ((l ++ x) ++ getL las f first count m (at' + (l ++ x).length) (size - (l ++ x).length) = getL las f first count size at' size) := by
        rw [Hid, hl2, List.append_assoc, ← Nat.add_assoc, Nat.sub_add_eq]; exact hE.out
      clear hown4 hg4 hlen hown3 hbw hE
      obtain ⟨g4, cap4, hv4⟩ : ∃ g cap, v' = .slice g (l ++ x).length cap := by
        rcases HO.out.2 with ⟨hv, hz⟩ | ⟨g, cap, _, hv, _⟩
        · exact ⟨none, 0, by rw [hv, hz]⟩
        · exact ⟨_, _, hv⟩
      subst hv4
      generalize l ++ x = l2 at *
      go_wp2
      go_roundw
      case rel => exact ⟨l2, m, by omega, by omega, hE2, HO, hb4⟩
      case measure => show size - l2.length < size - l.length; omega
    · have hlt1 : (size : Int) ≤ (l.length : Int) := by omega
      have hR : Hid (getL las f first count size at' size = l) := by
        have h0 : size - l.length = 0 := by omega
        rw [Hid, ← hE.out, h0]
        cases m with
        | zero => simp [getL]
        | succ m => simp [getL]
      have kc := bytes_str hown.out
      clear hE
      go_wp2
      go_ret2
      rw [hR.out]
      exact ⟨rfl, hb.out⟩
end
end Go.Proofs.YtckhdknehdjhoaaDoor
