/-
  THE CONTRACT OF an area's Set.
-/
import Derived.Test.YtckhdknehdjhoaaDoorArGet
import Derived.Deep.RegionHeld3
namespace Go.Proofs.YtckhdknehdjhoaaDoor
open Go.RowKit
theorem keep_drew {W : World} {p : Addr} {v : Value} (hc : W.cell? p = some v) : W.drew.cell? p = some v := hc
def setF (las : List (List UInt8)) (first count : Nat) : Nat → Nat → List UInt8 → (Int → Option (List UInt8)) → (Int → Option (List UInt8))
  | 0, _, _, f => f
  | m + 1, at', t, f => if t.length = 0 then f else
    setF las first count m (at' + (pcB count at' t.length - pcA count at')) (t.drop (pcB count at' t.length - pcA count at'))
      (upd f (pcQ first count at' : Int) (some ((secAt las f (pcQ first count at')).take (pcA count at') ++ t.take (pcB count at' t.length - pcA count at') ++ (secAt las f (pcQ first count at')).drop (pcB count at' t.length))))
/-- What is outside of the area stays. -/
theorem setF_out {las : List (List UInt8)} {first count : Nat} (hc : 1 ≤ count) (q : Nat) (hq : q < first ∨ first + count ≤ q) : ∀ m at' t f, setF las first count m at' t f (q : Int) = f (q : Int)
  | 0, _, _, _ => rfl
  | m + 1, at', t, f => by
    unfold setF
    split
    · rfl
    · obtain ⟨a, b⟩ := pcQ_in (first := first) (at' := at') hc
      rw [setF_out hc q hq m]
      unfold upd
      rw [if_neg (by omega)]
theorem take_ext (l : List UInt8) (a : Nat) : ((txt l).extract 0 a).data.toList = l.take a := by rw [ext_list]; simp
theorem drop_ext (l : List UInt8) (b n : Nat) (h : l.length = n) : ((txt l).extract b n).data.toList = l.drop b := by
  rw [ext_list, List.take_of_length_le (by rw [List.length_drop]; omega)]
theorem txt_drop (l : List UInt8) (d : Nat) : (txt l).extract d l.length = txt (l.drop d) := by
  apply ByteArray.ext
  apply Array.toList_inj.1
  rw [drop_ext l d _ rfl]; rfl
def okf (n : Nat) (f : Int → Option (List UInt8)) : Prop := ∀ z l, f z = some l → 0 ≤ z ∧ z < (n : Int) ∧ l.length = 64
theorem okf.upd {n : Nat} {f : Int → Option (List UInt8)} (h : okf n f) {i : Int} (hi : 0 ≤ i ∧ i < (n : Int)) {l : List UInt8} (hl : l.length = 64) : okf n (upd f i (some l)) := fun z m hm => by
  unfold Go.Proofs.YtckhdknehdjhoaaDoor.upd at hm
  by_cases e : z = i
  · rw [if_pos e] at hm; cases hm; rw [e]; exact ⟨hi.1, hi.2, hl⟩
  · rw [if_neg e] at hm; exact h z m hm
section
variable {W : World} {A D P L M n k first count : Nat} {u lf : Int} {las : List (List UInt8)} {f : Int → Option (List UInt8)}
theorem three_str (w : World) (s1 s2 s3 : ByteArray) (T : TypeId) : StrsAt (w.alloc (.cells #[.string s1, .string s2, .string s3] T)) (some ⟨w.heap.size, 0, none⟩) [s1, s2, s3] :=
  .inr ⟨w.heap.size, 0, rfl, fun i hi => by
    match i, hi with
    | 0, _ => exact new_cell rfl rfl
    | 1, _ => exact new_cell rfl rfl
    | 2, _ => exact new_cell rfl rfl⟩
theorem put3 (h : DevAt W D P L M n k false u false lf las f) (hu : 0 ≤ u ∧ u ≤ 1000000000) (hk : k ≤ 1000000) (q : Nat) (hq : q < n) (hn : n ≤ 4096) (s1 s2 s3 : ByteArray) (hl : (s1.data.toList ++ s2.data.toList ++ s3.data.toList).length = 64) :
    Calls Tryd.prog 21 #[.pointer (some ⟨D, 0, none⟩), .int .i64 (q : Int), .slice (some ⟨W.heap.size, 0, none⟩) 3 3] (W.alloc (.cells #[.string s1, .string s2, .string s3] 9)).drew fun e w' => e = .returned (.int .i64 0) ∧
      Hid (DevAt w' D P L M n (k + 1) false (u + 1) false lf las (upd f q (some (s1.data.toList ++ s2.data.toList ++ s3.data.toList)))) ∧ Hid (Fr3 P L M W w') := by
  have hb : Below W.heap.size W (W.alloc (.cells #[.string s1, .string s2, .string s3] 9)).drew := ((Below.refl _ _).alloc (Nat.le_refl _) _).drew
  have h1 := h.below hb
  have hPl := h.lts.2.1
  have hj : joined [s1, s2, s3] = s1.data.toList ++ s2.data.toList ++ s3.data.toList := by unfold joined; simp
  have e1 := ba_len s1
  have e2 := ba_len s2
  have e3 := ba_len s3
  have hl2 := hl
  rw [List.length_append, List.length_append, e1, e2, e3] at hl2
  have hp : pad (s1.data.toList ++ s2.data.toList ++ s3.data.toList) = s1.data.toList ++ s2.data.toList ++ s3.data.toList := by
    unfold pad; rw [hl]; simp
  refine (write_fr h1 hu hk (q : Int) ⟨by omega, by omega⟩ hn (some ⟨W.heap.size, 0, none⟩) [s1, s2, s3] 3 (by simp) (StrsAt.set (W := (W.alloc (.cells #[.string s1, .string s2, .string s3] 9)).drew) (three_str W s1 s2 s3 9) P 1 (.int .i64 (u + 1)) (fun b off j x _ e _ => by injection e with e; injection e with e _; omega)) (fun i => by
    match i with
    | 0 => show s1.size ≤ _; omega
    | 1 => show s2.size ≤ _; omega
    | 2 => show s3.size ≤ _; omega
    | i + 3 => simp [ByteArray.size]) (by rw [hj, hl]; exact Nat.le_refl _)).mono ?_
  rintro e w' ⟨rfl, g, hf⟩
  rw [hj, hp] at g
  exact ⟨rfl, g, (Fr3.of_below hb).trans hf⟩
set_option maxRecDepth 100000 in
set_option maxHeartbeats 4000000 in
theorem set_yes (h : DevAt W D P L M n k false u false lf las f) (ha : ArAt W A D first count) (hA : A ≠ P ∧ A ≠ L ∧ A ≠ M) (hf : okf n f) (hn : first + count ≤ n ∧ n ≤ 4096) (hu : 0 ≤ u ∧ u ≤ 999000000) (hk : k ≤ 900000)
    (at' : Nat) (h0 : at' ≤ 4611686018427387904) (sa : Option Addr) (ss : List ByteArray) (sc : Nat) (hss : ss.length ≤ 1000) (hsc : ss.length ≤ sc) (hsa : StrsAt W sa ss) (hsz : ∀ s ∈ ss, s.size ≤ 140737488351232) (h1 : (joined ss).length ≤ 64 * count) (h9 : (joined ss).length ≤ 4096) :
    Calls Tryd.prog 11 #[.pointer (some ⟨A, 0, none⟩), .int .i64 (at' : Int), .slice sa ss.length sc] W fun e w' => e = .returned (.int .i64 0) ∧ ∃ c : Nat, c ≤ (joined ss).length ∧
      Hid (DevAt w' D P L M n (k + c) false (u + (c : Int)) false lf las (setF las first count (joined ss).length at' (joined ss) f)) ∧ Hid (Fr3 P L M W w') ∧ Hid (okf n (setF las first count (joined ss).length at' (joined ss) f)) := by
  have KZ := Lib.hid (sizeOf_any sa ss sc W hss hsa hsz)
  have KO := Lib.hid (fun W1 (hb : Below W.heap.size W W1) => open_yes (h.below hb) (ha.below hb) (at' : Int) ((joined ss).length : Int) ⟨by omega, by omega⟩ ⟨by omega, by omega⟩)
  have KJ := Lib.hid (fun W1 (hb : Below W.heap.size W W1) => joinS_any sa ss sc W1 (hsa.below hb) hsc (by omega) (by omega))
  have H := Lib.hid h
  have HA := Lib.hid ha
  have HF := Lib.hid hf
  have hc := ha.c
  clear h ha hf hsa
  generalize joined ss = tx at *
  go_enter Tryd.func11, Tryd.ntmps11
  go_wp2_with fail
  refine KZ.out.mono ?_
  rintro e w1 ⟨rfl, hb1⟩
  go_wp2_with fail
  refine (KO.out _ hb1).mono ?_
  rintro e w2 ⟨rfl, rfl⟩
  go_wp2_with fail
  refine (KJ.out _ hb1).mono ?_
  rintro e w3 ⟨rfl, hb2⟩
  have hb3 := hb1.trans (hb2.mono hb1.size)
  have D0 : Hid (DevAt w3 D P L M n (k + 0) false (u + ((0 : Nat) : Int)) false lf las f) := by
    have := H.out.below hb3
    simpa [Hid] using this
  have A0 := Lib.hid (HA.out.below hb3)
  have F0 : Hid (Fr3 P L M W w3) := Fr3.of_below hb3
  clear hb1 hb2 hb3 KZ KO KJ H HA
  obtain ⟨T0, hT0⟩ : ∃ T, T = txt tx := ⟨_, rfl⟩
  have HT0 := Lib.hid hT0
  rw [← hT0]
  clear hT0
  go_wp2
  go_loopw [1, 8] (fun v1 v8 wr => ∃ (at1 : Nat) (t : List UInt8) (TT : ByteArray) (m c : Nat) (f1 : Int → Option (List UInt8)), v1 = .int .i64 (at1 : Int) ∧ v8 = .string TT ∧ Hid (TT = txt t) ∧ t.length ≤ m ∧ c + t.length ≤ tx.length ∧ at1 + t.length = at' + tx.length ∧
    Hid (setF las first count m at1 t f1 = setF las first count tx.length at' tx f) ∧ Hid (DevAt wr D P L M n (k + c) false (u + (c : Int)) false lf las f1) ∧ Hid (ArAt wr A D first count) ∧ Hid (Fr3 P L M W wr) ∧ Hid (okf n f1)) (fun _ v8 _ => match v8 with | .string s => s.size | _ => 0)
  case atStart => exact ⟨at', tx, T0, tx.length, 0, f, rfl, rfl, HT0, Nat.le_refl _, by omega, by omega, rfl, D0, A0, F0, HF⟩
  case round =>
    obtain ⟨at1, t, TT, m, c, f1, rfl, rfl, HT, hm, hct, hat, hE, D1, A1, F1, O1⟩ := hrel
    rename World => wa
    clear D0 A0 F0 HT0
    have hTs : TT.size = t.length := by rw [HT.out, txt_size]
    by_cases hlt : t.length = 0
    · have ht0 : t = [] := List.length_eq_zero_iff.1 hlt
      have hTe : TT = ⟨#[]⟩ := by rw [HT.out, ht0]; rfl
      subst hTe
      have hE1 : Hid (f1 = setF las first count tx.length at' tx f) := by
        rw [Hid, ← hE.out]
        cases m with
        | zero => rfl
        | succ m => rw [setF, if_pos hlt]
      clear hE
      go_wp2
      go_ret
      refine ⟨rfl, c, by omega, ?_, F1, ?_⟩
      · rw [← hE1.out]; exact D1
      · rw [← hE1.out]; exact O1
    · have hTe : TT.toList.isEmpty = false := by
        rw [ByteArray.toList_eq, List.isEmpty_eq_false_iff]
        intro e
        have := ba_len TT
        rw [e, hTs] at this
        exact hlt this.symm
      obtain ⟨m, rfl⟩ : ∃ m', m = m' + 1 := ⟨m - 1, by omega⟩
      have KP := Lib.hid (piece_any A1.out at1 t.length (by omega) (by omega))
      obtain ⟨q0, q1⟩ := pcQ_in (first := first) (at' := at1) hc.1
      obtain ⟨b0, b1, b2⟩ := pcB_in count at1 (size := t.length) (by omega)
      have KR := Lib.hid (read_any D1.out (pcQ first count at1) (by omega) hn.2 (fun l h => (O1.out _ l h).2.2))
      have hsl := secAt_len D1.out (fun z l h => (O1.out z l h).2.2) (pcQ first count at1) (by omega)
      have hX1 := Lib.hid (take_ext (secAt las f1 (pcQ first count at1)) (pcA count at1))
      have hX3 := Lib.hid (drop_ext (secAt las f1 (pcQ first count at1)) (pcB count at1 t.length) 64 hsl)
      have hT := txt_size (secAt las f1 (pcQ first count at1))
      have hG : Hid (setF las first count (m + 1) at1 t f1 = setF las first count m (at1 + (pcB count at1 t.length - pcA count at1)) (t.drop (pcB count at1 t.length - pcA count at1))
          (upd f1 (pcQ first count at1 : Int) (some ((secAt las f1 (pcQ first count at1)).take (pcA count at1) ++ t.take (pcB count at1 t.length - pcA count at1) ++ (secAt las f1 (pcQ first count at1)).drop (pcB count at1 t.length))))) := by
        rw [Hid, setF, if_neg hlt]
      rw [hG.out] at hE
      clear hG
      rw [hsl] at hT
      have hcell := A1.out.a0
      generalize pcQ first count at1 = Q at *
      generalize pcB count at1 t.length = b at *
      generalize pcA count at1 = a at *
      obtain ⟨d, hd⟩ : ∃ d, d = b - a := ⟨_, rfl⟩
      rw [← hd] at hE b2
      have hdi : (b : Int) - (a : Int) = (d : Int) := by omega
      have hX2 := Lib.hid (take_ext t d)
      have hTd := Lib.hid (txt_drop t d)
      rw [← HT.out] at hX2 hTd
      have hl1 : ((secAt las f1 Q).take a).length = a := by rw [List.length_take, hsl]; omega
      have hl2 : (t.take d).length = d := by rw [List.length_take]; omega
      have hl3 : ((secAt las f1 Q).drop b).length = 64 - b := by rw [List.length_drop, hsl]
      have hl4 : ((secAt las f1 Q).take a ++ t.take d ++ (secAt las f1 Q).drop b).length = 64 := by
        rw [List.length_append, List.length_append, hl1, hl2, hl3]; omega
      generalize (secAt las f1 Q).take a = x1 at *
      generalize (secAt las f1 Q).drop b = x3 at *
      generalize txt (secAt las f1 Q) = T at *
      generalize t.take d = x2 at *
      have hA64 : (a : Int) ≤ 64 := by omega
      have hB64 : (b : Int) ≤ 64 := by omega
      have hA65 : a ≤ 64 := by omega
      have hDt : (d : Int) ≤ (t.length : Int) := by omega
      have hA0 : (0 : Int) ≤ (a : Int) := by omega
      have hB0 : (0 : Int) ≤ (b : Int) := by omega
      have hD0 : (0 : Int) ≤ (d : Int) := by omega
      have hd9 : 0 < d := by omega
      have Hd := Lib.hid hd
      clear hd
      clear hsl
      go_wp2_with fail
      refine KP.out.mono ?_
      rintro e w4 ⟨rfl, rfl⟩
      clear KP
      go_wp2_with fail
      refine KR.out.mono ?_
      rintro e w5 ⟨rfl, hb5⟩
      clear KR
      have hcell5 := keep_cell hb5 hcell
      have D2 := Lib.hid (D1.out.below hb5)
      have A2 := Lib.hid (A1.out.below hb5)
      have F2 := Lib.hid (F1.out.trans (Fr3.of_below hb5))
      clear hb5 hcell D1 A1 F1
      go_wp2_with fail
      have KW := Lib.hid (put3 (W := w5) D2.out ⟨by omega, by omega⟩ (by omega) Q (by omega) hn.2 (T.extract 0 a) (TT.extract 0 d) (T.extract b 64) (by rw [hX1.out, hX2.out, hX3.out]; exact hl4))
      rw [hX1.out, hX2.out, hX3.out] at KW
      go_region_held3 (fun w' => w'.cell? ⟨A, 0, none⟩ = some (.pointer (some ⟨D, 0, none⟩)))
        ((repeat (first | with_reducible assumption | with_reducible refine keep_alloc ?_ | with_reducible refine keep_drew ?_ | with_reducible refine keep_cell (by assumption) ?_)))
        (first | (go_at_call 21; refine KW.out.mono ?_; rintro x w6 ⟨rfl, hd6, hf6⟩; have hcw6 := hf6.out.cell hcell5 hA.1 hA.2.1 hA.2.2))
      have A3 := Lib.hid (A2.out.fr hf6.out hA.1 hA.2.1 hA.2.2)
      have F3 := Lib.hid (F2.out.trans hf6.out)
      have O3 := Lib.hid (O1.out.upd (i := (Q : Int)) ⟨by omega, by omega⟩ hl4)
      have D3 : Hid (DevAt w6 D P L M n (k + (c + 1)) false (u + ((c + 1 : Nat) : Int)) false lf las (upd f1 (Q : Int) (some (x1 ++ x2 ++ x3)))) := by
        have e : u + ((c + 1 : Nat) : Int) = u + (c : Int) + 1 := by omega
        rw [e]; exact hd6
      have hdl : (t.drop d).length = t.length - d := List.length_drop
      have hexs : (TT.extract d t.length).size = t.length - d := by rw [ByteArray.size_extract, hTs]; omega
      have hat9 : (at1 : Int) + (d : Int) ≤ 9223372036854775807 := by omega
      clear KW hd6 hf6 A2 F2 D2 O1 hcw6 hcell5
      generalize t.drop d = t2 at *
      go_wp2
      go_roundw
      case rel => exact ⟨at1 + d, t2, _, m, c + 1, _, by go_num, rfl, hTd, by omega, by omega, by omega, hE, D3, A3, F3, O3⟩
      case measure => show (TT.extract d t.length).size < TT.size; omega
end
end Go.Proofs.YtckhdknehdjhoaaDoor
