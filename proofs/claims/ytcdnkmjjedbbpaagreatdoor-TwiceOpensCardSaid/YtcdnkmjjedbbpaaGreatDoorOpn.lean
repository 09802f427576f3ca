/-
  TwiceOpens: what an Open finds of any note, any copy, any page's bytes.
  TwiceOpens: texts as the law compares them.
  TwiceOpens: Open, Read and Page as the law meets them.
-/
import Derived.Test.YtcdnkmjjedbbpaaGreatDoorTwPut
import Derived.Test.YtcdnkmjjedbbpaaGreatDoorTpRefReadP
import Derived.Test.YtcdnkmjjedbbpaaGreatDoorTpRefRead
namespace Go.Proofs.YtcdnkmjjedbbpaaGreatDoor
open Go.RowKit
theorem settle_on (m : Nat) (b : ByteArray) (g : Nat → List UInt8) : ∃ G, settleM m b ⟨.on, g, fun _ => none⟩ = (true, ⟨.on, G, fun _ => none⟩) ∧ G 0 = Dv.pad (noteL 0) ∧ (∀ i, i < 4 → G (place m + i) = Dv.pad (sec b i)) ∧ (∀ j, 1 ≤ j → (j < place m ∨ place m + 4 ≤ j) → G j = g j) := by
  refine ⟨vw ⟨.on, vw ⟨.on, g, Dv.upd (Dv.upd (Dv.upd (Dv.upd (fun _ => none) ((place m + 0 : Nat) : Int) (some (Dv.pad (sec b 0)))) ((place m + 1 : Nat) : Int) (some (Dv.pad (sec b 1)))) ((place m + 2 : Nat) : Int) (some (Dv.pad (sec b 2)))) ((place m + 3 : Nat) : Int) (some (Dv.pad (sec b 3)))⟩, Dv.upd (fun _ => none) ((0 : Nat) : Int) (some (Dv.pad (noteL 0)))⟩, rfl, ?_, ?_, ?_⟩
  · unfold vw
    show (Dv.upd (fun _ => none) ((0 : Nat) : Int) _ ((0 : Nat) : Int)).getD _ = _
    rw [upd_in]; rfl
  · intro i hi
    have hp := place_ge m
    unfold vw
    show (Dv.upd (fun _ => none) ((0 : Nat) : Int) _ ((place m + i : Nat) : Int)).getD _ = _
    rw [upd_out (by omega)]
    show ((Dv.upd (Dv.upd (Dv.upd (Dv.upd (fun _ => none) ((place m + 0 : Nat) : Int) _) ((place m + 1 : Nat) : Int) _) ((place m + 2 : Nat) : Int) _) ((place m + 3 : Nat) : Int) _) ((place m + i : Nat) : Int)).getD _ = _
    match i, hi with
    | 0, _ => rw [upd_out (by omega), upd_out (by omega), upd_out (by omega), upd_in]; rfl
    | 1, _ => rw [upd_out (by omega), upd_out (by omega), upd_in]; rfl
    | 2, _ => rw [upd_out (by omega), upd_in]; rfl
    | 3, _ => rw [upd_in]; rfl
  · intro j h1 h2
    unfold vw
    show (Dv.upd (fun _ => none) ((0 : Nat) : Int) _ (j : Int)).getD _ = _
    rw [upd_out (by omega)]
    show ((Dv.upd (Dv.upd (Dv.upd (Dv.upd (fun _ => none) ((place m + 0 : Nat) : Int) _) ((place m + 1 : Nat) : Int) _) ((place m + 2 : Nat) : Int) _) ((place m + 3 : Nat) : Int) _) (j : Int)).getD _ = _
    rw [upd_out (by omega), upd_out (by omega), upd_out (by omega), upd_out (by omega)]; rfl
/-- The sectors as the law lays them. -/
def opG (note : ByteArray) (c h : ByteArray) (k : Nat) : Nat → List UInt8 := putG (putG (updG (fun _ => Dv.blank64) 0 (Dv.pad note.data.toList)) 1 c 4) (5 + 4 * k) h 4
section
variable {note c h : ByteArray} {k : Nat}
theorem opG_note : opG note c h k 0 = Dv.pad note.data.toList := by
  unfold opG putG updG
  rw [if_neg (by omega), if_neg (by omega), if_pos rfl]
theorem opG_copy (hc : c.size = 256) : txt4 (opG note c h k) 1 = c := txt4_sec hc fun i hi => by
  unfold opG putG
  rw [if_neg (by omega), if_pos (by omega), Nat.add_sub_cancel_left]
theorem opG_home (hh : h.size = 256) : txt4 (opG note c h k) (place k) = h := txt4_sec hh fun i hi => by
  unfold opG putG place
  rw [if_pos (by omega), Nat.add_sub_cancel_left]
def opS (note c h : ByteArray) (k : Nat) : Ds := ⟨.on, opG note c h k, fun _ => none⟩
theorem opS_vw : vw (opS note c h k) = opG note c h k := vw_none (fun _ => rfl)
theorem op_blank (hz : allZ (Dv.txt (Dv.pad note.data.toList)) = true) : openM 3 (opS note c h k) = (0, opS note c h k) := by
  have : openM 3 (opS note c h k) = if allZ (Dv.txt (vw (opS note c h k) 0)) = true then (0, opS note c h k) else
    match takeOf (Dv.txt (vw (opS note c h k) 0)) 1 with
    | none => (9, opS note c h k)
    | some (k', r) => if k' < 1 ∨ 3 < k' ∨ allZ r = false then (9, opS note c h k) else
      match readOf (txt4 (vw (opS note c h k)) 1) with
      | none => (9, opS note c h k)
      | some (no, _, _) => if no + 1 = k' then (er (settleM no (txt4 (vw (opS note c h k)) 1) (opS note c h k)).1, (settleM no (txt4 (vw (opS note c h k)) 1) (opS note c h k)).2) else (9, opS note c h k) := rfl
  rw [this, opS_vw, opG_note, if_pos hz]
theorem op_bad (hc : c.size = 256) (hz : allZ (Dv.txt (Dv.pad note.data.toList)) = false) {n0 : Nat} {r : ByteArray} (ht : takeOf (Dv.txt (Dv.pad note.data.toList)) 1 = some (n0, r)) (hbad : n0 < 1 ∨ 3 < n0 ∨ allZ r = false ∨ readOf c = none ∨ ∃ no g l, readOf c = some (no, g, l) ∧ no + 1 ≠ n0) : openM 3 (opS note c h k) = (9, opS note c h k) := by
  have : openM 3 (opS note c h k) = if allZ (Dv.txt (vw (opS note c h k) 0)) = true then (0, opS note c h k) else
    match takeOf (Dv.txt (vw (opS note c h k) 0)) 1 with
    | none => (9, opS note c h k)
    | some (k', r) => if k' < 1 ∨ 3 < k' ∨ allZ r = false then (9, opS note c h k) else
      match readOf (txt4 (vw (opS note c h k)) 1) with
      | none => (9, opS note c h k)
      | some (no, _, _) => if no + 1 = k' then (er (settleM no (txt4 (vw (opS note c h k)) 1) (opS note c h k)).1, (settleM no (txt4 (vw (opS note c h k)) 1) (opS note c h k)).2) else (9, opS note c h k) := rfl
  rw [this, opS_vw, opG_note, opG_copy hc, hz, ht, if_neg (by decide)]
  simp only
  split
  · rfl
  · rename_i hn
    rcases hbad with e | e | e | e | ⟨no, g, l, e, e2⟩
    · exact absurd (.inl e) hn
    · exact absurd (.inr (.inl e)) hn
    · exact absurd (.inr (.inr e)) hn
    · rw [e]
    · rw [e]; exact if_neg e2
theorem op_good (hc : c.size = 256) (hz : allZ (Dv.txt (Dv.pad note.data.toList)) = false) {n0 : Nat} {r : ByteArray} (ht : takeOf (Dv.txt (Dv.pad note.data.toList)) 1 = some (n0, r)) (h1 : 1 ≤ n0) (h3 : n0 ≤ 3) (hr : allZ r = true) {no g : Nat} {l : List (ByteArray × ByteArray)} (he : readOf c = some (no, g, l)) (hno : no + 1 = n0) :
    ∃ G, openM 3 (opS note c h k) = (0, ⟨.on, G, fun _ => none⟩) ∧ G 0 = Dv.blank64 ∧ txt4 G (place no) = c ∧ (no ≠ k → h.size = 256 → txt4 G (place k) = h) := by
  have : openM 3 (opS note c h k) = if allZ (Dv.txt (vw (opS note c h k) 0)) = true then (0, opS note c h k) else
    match takeOf (Dv.txt (vw (opS note c h k) 0)) 1 with
    | none => (9, opS note c h k)
    | some (k', r) => if k' < 1 ∨ 3 < k' ∨ allZ r = false then (9, opS note c h k) else
      match readOf (txt4 (vw (opS note c h k)) 1) with
      | none => (9, opS note c h k)
      | some (no, _, _) => if no + 1 = k' then (er (settleM no (txt4 (vw (opS note c h k)) 1) (opS note c h k)).1, (settleM no (txt4 (vw (opS note c h k)) 1) (opS note c h k)).2) else (9, opS note c h k) := rfl
  obtain ⟨G, e1, e2, e3, e4⟩ := settle_on no c (opG note c h k)
  refine ⟨G, ?_, ?_, ?_, ?_⟩
  · rw [this, opS_vw, opG_note, opG_copy hc, hz, ht, if_neg (by decide)]
    simp only
    rw [if_neg (by intro e; rcases e with e | e | e; omega; omega; rw [hr] at e; cases e), he]
    show (if no + 1 = n0 then _ else _) = _
    rw [if_pos hno]
    show (er (settleM no c ⟨.on, opG note c h k, fun _ => none⟩).1, (settleM no c ⟨.on, opG note c h k, fun _ => none⟩).2) = _
    rw [e1]; rfl
  · rw [e2]
    unfold noteL Dv.pad Dv.blank64
    rw [be_one1 0 (by omega)]; rfl
  · exact txt4_sec hc fun i hi => by rw [e3 i hi, pad_sec hc hi]
  · intro hne hh
    refine txt4_sec hh fun i hi => ?_
    rw [e4 _ (by have := place_ge k; omega) (place_apart (fun e => hne e.symm) i hi)]
    have := opG_home (note := note) (c := c) (k := k) hh
    unfold opG putG place
    rw [if_pos (by omega), Nat.add_sub_cancel_left]
end
theorem blank_pad {note : ByteArray} (h : allZ (Dv.txt (Dv.pad note.data.toList)) = true) (hs : note.size ≤ 64) : Dv.pad note.data.toList = Dv.blank64 := by
  have := allZ_no h
  have h2 := congrArg (fun b : ByteArray => b.data.toList) this
  have e : (Dv.txt (Dv.pad note.data.toList)).size = 64 := txt_len (Dv.pad_len (by rw [Dv.ba_len]; exact hs))
  rw [e] at h2
  have h3 : (bstr (List.replicate 64 0)).data.toList = Dv.blank64 := by rw [bstr_data]; rfl
  have h4 : (Dv.txt (Dv.pad note.data.toList)).data.toList = Dv.pad note.data.toList := rfl
  exact h4.symm.trans (h2.trans h3)
end Go.Proofs.YtcdnkmjjedbbpaaGreatDoor

namespace Go.Proofs.YtcdnkmjjedbbpaaGreatDoor
open Go.RowKit
theorem padN (note : ByteArray) : note ++ bstr (zs (64 - note.size)) = Dv.txt (Dv.pad note.data.toList) := by
  apply bs_ext
  rw [ByteArray.data_append, Array.toList_append, bstr_data]
  show _ = Dv.pad note.data.toList
  unfold Dv.pad zs
  rw [Dv.ba_len]
theorem padN_size {note : ByteArray} (h : note.size ≤ 64) : (Dv.txt (Dv.pad note.data.toList)).size = 64 := txt_len (Dv.pad_len (by rw [Dv.ba_len]; exact h))
theorem blk64 : (bstr (zs 256)).extract 0 64 = bstr (zs 64) := by decide +kernel
theorem blk63 : (bstr (zs 256)).extract 0 63 = bstr (zs 63) := by decide +kernel
theorem z_eq {s : ByteArray} {k : Nat} (hs : s.size = k) (h : allZ s = true) : s = bstr (zs k) := by
  have := allZ_no h
  rw [hs] at this; exact this
theorem z_ne {s : ByteArray} {k : Nat} (h : allZ s = false) : ¬ s = bstr (zs k) := fun e => by
  have : allZ (bstr (zs k)) = true := allZ_yes k
  rw [← e, h] at this; cases this
theorem op_ne {a b : ByteArray} (h : ¬ a = b) : (a.toList == b.toList) = false := by
  rw [beq_eq_false_iff_ne]
  intro e
  rw [ByteArray.toList_eq, ByteArray.toList_eq] at e
  exact h (bs_ext e)
theorem blank_txt : Dv.txt Dv.blank64 = bstr (zs 64) := by decide +kernel
theorem read_bl : readOf (bstr (zs 256)) = none := read_blank
theorem pgAt_bl (k : Nat) : pgAt (bstr (zs 256)) k = some (0, []) := by
  unfold pgAt; rw [if_pos (show allZ (bstr (zs 256)) = true from allZ_yes 256)]
theorem op_take {N : ByteArray} (hs : N.size = 64) : takeOf N 1 = some (N[0].toNat, N.extract 1 64) := by
  have hv : beVal (N.data.toList.take (1 : Int).toNat) = N[0].toNat := by
    rw [show (1 : Int).toNat = 0 + 1 from rfl, take_snoc N 0 (by omega)]
    simp [beVal]
  have hl := N[0].toNat_lt
  unfold takeOf
  rw [hv, if_pos ⟨by omega, by omega, by omega, by omega⟩]
  have : N.extract (1 : Int).toNat N.size = N.extract 1 64 := congrArg (N.extract 1) hs
  rw [this]
theorem pgAt_none {h : ByteArray} {k : Nat} (hs : h.size = 256) (hne : ¬ h = bstr (zs 256)) (hr : readOf h = none) : pgAt h k = none := by
  unfold pgAt
  rw [if_neg (fun e => hne (z_eq hs e)), hr]
theorem pgAt_other {h : ByteArray} {k no g : Nat} {l : List (ByteArray × ByteArray)} (hs : h.size = 256) (hne : ¬ h = bstr (zs 256)) (hr : readOf h = some (no, g, l)) (hno : ¬ no = k) : pgAt h k = none := by
  unfold pgAt
  rw [if_neg (fun e => hne (z_eq hs e)), hr]
  exact if_neg hno
theorem pgAt_own {h : ByteArray} {k g : Nat} {l : List (ByteArray × ByteArray)} (hs : h.size = 256) (hne : ¬ h = bstr (zs 256)) (hr : readOf h = some (k, g, l)) : pgAt h k = some (g, l) := by
  unfold pgAt
  rw [if_neg (fun e => hne (z_eq hs e)), hr]
  exact if_pos rfl
end Go.Proofs.YtcdnkmjjedbbpaaGreatDoor

namespace Go.Proofs.YtcdnkmjjedbbpaaGreatDoor
open Go.RowKit
def z64 : ByteArray := bstr (zs 64)
section
variable {w W : World} {D P L M T : Nat} {note C H : ByteArray} {k : Nat} {G : Nat → List UInt8}
/-- The pages that an Open found. -/
structure OpT (w W : World) (D P L M T : Nat) (G : Nat → List UInt8) : Prop where
  s : TwS w W D P L M 17 7 T 3 ⟨.on, G, fun _ => none⟩
  z : G 0 = Dv.blank64
theorem OpT.below {X : World} (h : OpT w W D P L M T G) (hb : Below W.heap.size W X) : OpT w X D P L M T G := ⟨h.s.below hb, h.z⟩
theorem ob_yes (hd : DvB w W D P L M 17 0 (opS note C H k)) (hz : allZ (Dv.txt (Dv.pad note.data.toList)) = true) (hs : note.size ≤ 64) (hH : H.size = 256) :
    Calls Tryz.prog 15 #[.pointer (some ⟨D, 0, none⟩), .int .i64 3] W fun x w' => ∃ T G, x = .returned (.tuple #[.pointer (some ⟨T, 0, none⟩), .int .i64 0]) ∧ OpT w w' D P L M T G ∧ txt4 G (place k) = H := by
  have := open_s hd (by omega) (by omega) 3 (by omega) (by omega) (by omega)
  rw [op_blank hz] at this
  refine this.mono ?_
  rintro x w' ⟨T, rfl, hs7, _, _⟩
  exact ⟨T, _, rfl, ⟨hs7, by rw [opG_note]; exact blank_pad hz hs⟩, opG_home hH⟩
theorem ob_bad (hd : DvB w W D P L M 17 0 (opS note C H k)) (hc : C.size = 256) (hz : allZ (Dv.txt (Dv.pad note.data.toList)) = false) {n0 : Nat} {r : ByteArray} (ht : takeOf (Dv.txt (Dv.pad note.data.toList)) 1 = some (n0, r)) (hbad : n0 < 1 ∨ 3 < n0 ∨ allZ r = false ∨ readOf C = none ∨ ∃ no g l, readOf C = some (no, g, l) ∧ no + 1 ≠ n0) :
    Calls Tryz.prog 15 #[.pointer (some ⟨D, 0, none⟩), .int .i64 3] W fun x w' => x = .returned (.tuple #[.pointer none, .int .i64 9]) ∧ Below w.heap.size w w' ∧ W.heap.size ≤ w'.heap.size := by
  have := open_s hd (by omega) (by omega) 3 (by omega) (by omega) (by omega)
  rw [op_bad hc hz ht hbad] at this
  refine this.mono ?_
  rintro x w' ⟨T, rfl, hs7, hf, _⟩
  exact ⟨rfl, hs7.bw, hf.size⟩
theorem ob_good (hd : DvB w W D P L M 17 0 (opS note C H k)) (hc : C.size = 256) (hH : H.size = 256) (hz : allZ (Dv.txt (Dv.pad note.data.toList)) = false) {n0 : Nat} {r : ByteArray} (ht : takeOf (Dv.txt (Dv.pad note.data.toList)) 1 = some (n0, r)) (h1 : 1 ≤ n0) (h3 : n0 ≤ 3) (hr : allZ r = true) {no g : Nat} {l : List (ByteArray × ByteArray)} (he : readOf C = some (no, g, l)) (hno : no + 1 = n0) :
    Calls Tryz.prog 15 #[.pointer (some ⟨D, 0, none⟩), .int .i64 3] W fun x w' => ∃ T G, x = .returned (.tuple #[.pointer (some ⟨T, 0, none⟩), .int .i64 0]) ∧ OpT w w' D P L M T G ∧ txt4 G (place no) = C ∧ (no ≠ k → txt4 G (place k) = H) := by
  have := open_s hd (by omega) (by omega) 3 (by omega) (by omega) (by omega)
  obtain ⟨G, e1, e2, e3, e4⟩ := op_good (k := k) (h := H) hc hz ht h1 h3 hr he hno
  rw [e1] at this
  refine this.mono ?_
  rintro x w' ⟨T, rfl, hs7, _, _⟩
  exact ⟨T, G, rfl, ⟨hs7, e2⟩, e3, fun e => e4 e hH⟩
theorem t_read (h : OpT w W D P L M T G) : Calls Tryz.prog 21 #[.pointer (some ⟨D, 0, none⟩), .int .i64 0] W fun x w' => x = .returned (.tuple #[.string z64, .int .i64 0]) ∧ Below W.heap.size W w' := by
  have := read_s h.s.d 0 (by omega) (by omega)
  refine this.mono ?_
  rintro x w' ⟨rfl, hb⟩
  refine ⟨?_, hb⟩
  show Ending.returned (.tuple #[.string (Dv.txt (vw ⟨.on, G, fun _ => none⟩ 0)), .int .i64 0]) = _
  rw [vw_none (fun _ => rfl)]
  show Ending.returned (.tuple #[.string (Dv.txt (G 0)), .int .i64 0]) = _
  rw [h.z, blank_txt]; rfl
theorem t_page (h : OpT w W D P L M T G) (j : Nat) (hj : j < 3) {t : ByteArray} (ht : txt4 G (place j) = t) : Calls Tryz.prog 19 #[.pointer (some ⟨T, 0, none⟩), .int .i64 (j : Int)] W (PgAns W j (pgAt t j)) := by
  have := page_s h.s (by intro e; cases e) (by omega) (by omega) j hj
  rw [vw_none (fun _ => rfl)] at this
  rw [← ht]; exact this
theorem t_bad (h : OpT w W D P L M T G) (j : Nat) (hj : j < 3) {t : ByteArray} (ht : txt4 G (place j) = t) (hp : pgAt t j = none) : Calls Tryz.prog 19 #[.pointer (some ⟨T, 0, none⟩), .int .i64 (j : Int)] W fun x w' => x = .returned (.tuple #[.agg #[.int .i64 0, .int .i64 0, .slice none 0 0], .int .i64 9]) ∧ Below W.heap.size W w' := by
  have := t_page h j hj ht
  rw [hp] at this; exact this
theorem t_good (h : OpT w W D P L M T G) (j : Nat) (hj : j < 3) {t : ByteArray} (ht : txt4 G (place j) = t) {g : Nat} {l : List (ByteArray × ByteArray)} (hp : pgAt t j = some (g, l)) : Calls Tryz.prog 19 #[.pointer (some ⟨T, 0, none⟩), .int .i64 (j : Int)] W fun x w' => ∃ a c, x = .returned (.tuple #[.agg #[.int .i64 (j : Int), .int .i64 (g : Int), .slice a l.length c], .int .i64 0]) ∧ RowC w' W.heap.size (.slice a l.length c) l ∧ Below W.heap.size W w' := by
  have := t_page h j hj ht
  rw [hp] at this; exact this
theorem t_blank (h : OpT w W D P L M T G) (j : Nat) (hj : j < 3) (ht : txt4 G (place j) = bstr (zs 256)) : Calls Tryz.prog 19 #[.pointer (some ⟨T, 0, none⟩), .int .i64 (j : Int)] W fun x w' => ∃ a c, x = .returned (.tuple #[.agg #[.int .i64 (j : Int), .int .i64 0, .slice a 0 c], .int .i64 0]) ∧ RowC w' W.heap.size (.slice a 0 c) [] ∧ Below W.heap.size W w' := t_good h j hj ht (pgAt_bl j)
theorem sm_blank (k : Int) (a : Option Addr) (c : Nat) (W : World) {B : Nat} (h : RowC W B (.slice a 0 c) []) : Calls Tryz.prog 20 #[.agg #[.int .i64 k, .int .i64 0, .slice a 0 c], .agg #[.int .i64 k, .int .i64 0, .slice none 0 0]] W fun e w' => e = .returned (.bool true) ∧ Below W.heap.size W w' := by
  have := refSame_any k 0 a [] c k 0 none [] 0 W (by decide) (RowC.clsAt h) (.inl rfl)
  rw [pgSame_rfl] at this
  exact this
theorem sm_own (k g : Int) (a a2 : Option Addr) (l : List (ByteArray × ByteArray)) (c c2 : Nat) (W : World) {B B2 : Nat} (hl : l.length ≤ 1000000) (h : RowC W B (.slice a l.length c) l) (h2 : RowC W B2 (.slice a2 l.length c2) l) : Calls Tryz.prog 20 #[.agg #[.int .i64 k, .int .i64 g, .slice a l.length c], .agg #[.int .i64 k, .int .i64 g, .slice a2 l.length c2]] W fun e w' => e = .returned (.bool true) ∧ Below W.heap.size W w' := by
  have := refSame_any k g a l c k g a2 l c2 W hl (RowC.clsAt h) (RowC.clsAt h2)
  rw [pgSame_rfl] at this
  exact this
theorem rd_small {s : ByteArray} {no g : Nat} {l : List (ByteArray × ByteArray)} (h : readOf s = some (no, g, l)) : l.length ≤ 1000000 := by
  unfold readOf at h
  split at h
  · cases h
  · split at h
    · rename_i hk
      have := (pgOk_parts hk.1).2.2.2.2.1
      injection h with h
      injection h with _ h
      injection h with _ h
      subst h
      omega
    · cases h
theorem rd_none {s : ByteArray} (h : readOf s = none) (W : World) : Calls Tryz.prog 18 #[.string s] W fun x w' => x = .returned (.tuple #[.agg #[.int .i64 0, .int .i64 0, .slice none 0 0], .bool false]) ∧ Below W.heap.size W w' := by
  have := refRead_any s W
  rw [h] at this; exact this
theorem rd_some {s : ByteArray} {no g : Nat} {l : List (ByteArray × ByteArray)} (h : readOf s = some (no, g, l)) (W : World) : Calls Tryz.prog 18 #[.string s] W fun x w' => ∃ a c, x = .returned (.tuple #[.agg #[.int .i64 no, .int .i64 g, .slice a l.length c], .bool true]) ∧ RowC w' W.heap.size (.slice a l.length c) l ∧ Below W.heap.size W w' := by
  have := refRead_any s W
  rw [h] at this; exact this
theorem rd_any (s : ByteArray) (W : World) : Calls Tryz.prog 18 #[.string s] W fun x w' => ∃ (n g : Nat) (a : Option Addr) (m c : Nat) (ok : Bool), x = .returned (.tuple #[.agg #[.int .i64 n, .int .i64 g, .slice a m c], .bool ok]) ∧ Below W.heap.size W w' := by
  refine (refRead_any s W).mono ?_
  intro x w' h
  unfold TkPg at h
  split at h
  · exact ⟨0, 0, none, 0, 0, false, h.1, h.2⟩
  · obtain ⟨a, c, h1, _, h3⟩ := h
    exact ⟨_, _, a, _, c, true, h1, h3⟩
end
end Go.Proofs.YtcdnkmjjedbbpaaGreatDoor
