/-
  THE CONTRACT OF page.Laid, of a right page: its bytes.
-/
import Derived.Test.YtkemhkmabbladaaGreatDoorTpSetP
import Derived.Test.YtkemhkmabbladaaGreatDoorPgSealD
import Derived.Test.YtkemhkmabbladaaGreatDoorNuml
import Derived.Deep.RegionHeld3
import Derived.Deep.Cut
import Derived.Deep.CutRange
import Derived.Deep.DeepCutAuto
namespace Go.Proofs.YtkemhkmabbladaaGreatDoor
open Go.RowKit
theorem keep_drew {W : World} {p : Addr} {v : Value} (hc : W.cell? p = some v) : W.drew.cell? p = some v := hc
def bstr (l : List UInt8) : ByteArray := ⟨l.toArray⟩
theorem bstr_size (l : List UInt8) : (bstr l).size = l.length := by unfold bstr; simp [ByteArray.size]
theorem bstr_append (x y : List UInt8) : bstr x ++ bstr y = bstr (x ++ y) := by
  unfold bstr
  apply ByteArray.ext
  simp [ByteArray.data_append]
theorem bstr_list (s : ByteArray) : bstr s.data.toList = s := rfl
/-- A number put in so many bytes. -/
theorem put_one (K x : Int) (h1 : 1 ≤ K ∧ K ≤ 8) (hx : (Lit.int .i64 x).wf = true) (W : World) (g : Nat) (hc : W.cell? ⟨g, 0, none⟩ = some (.int .i64 x)) :
    Calls Tryz.prog 100 #[.int .i64 K, .slice (some ⟨g, 0, none⟩) 1 1] W fun e w' => e = .returned (.string (bstr (putL K [x]))) ∧ Below W.heap.size W w' :=
  (put_any K (some ⟨g, 0, none⟩) [x] 1 W (by omega) (by intro n hn; simp at hn; subst hn; exact hx) (by simp) (.inr ⟨g, 0, rfl, fun i hi => by
    match i, hi with
    | 0, _ => exact hc⟩)).mono fun _ _ h => h
/-- A text with its length ahead. -/
def ltL (s : ByteArray) : List UInt8 := be 1 s.size ++ s.data.toList
theorem laidText_any (s : ByteArray) (hs : s.size ≤ 255) (w : World) : Calls Tryz.prog 101 #[.string s] w fun e w' => e = .returned (.string (bstr (ltL s))) ∧ Below w.heap.size w w' := by
  have P1 := Lib.hid (fun W g hc => put_one 1 (s.size : Int) ⟨by omega, by omega⟩ (WalkArith.wf_i64 (by omega)) W g hc)
  have e : putL 1 [(s.size : Int)] = be 1 s.size := by
    have := putL_one 1 (s.size : Int) (by omega) (by omega)
    rw [show ((1 : Nat) : Int) = 1 from rfl] at this
    rw [this]
    have hf : fitsN 1 (s.size : Int) = true := by unfold fitsN; simp; omega
    rw [hf, if_pos rfl, Int.toNat_natCast]
  rw [e] at P1
  have HE : Hid (bstr (be 1 s.size) ++ s = bstr (ltL s)) := by
    show _ = _
    have := bstr_append (be 1 s.size) s.data.toList
    rw [bstr_list] at this
    exact this
  have z1 : (bstr (be 1 s.size)).size = 1 := by rw [bstr_size, be_len]
  generalize bstr (be 1 s.size) = n1 at *
  clear e
  have a1 : ¬ 9223372036854775807 < n1.size + s.size := by omega
  have hb : Below w.heap.size w (w.alloc (.cells #[.int .i64 (s.size : Int)] 3)) := (Below.refl _ _).alloc (Nat.le_refl _) _
  go_enter Tryz.func101, Tryz.ntmps101
  go_wp2_with fail
  refine (P1.out _ _ ?_).mono ?_
  · exact new_cell rfl rfl
  rintro e w5 ⟨rfl, hb5⟩
  have hbf := hb.trans (hb5.mono hb.size)
  go_wp2
  go_ret
  exact ⟨by rw [← HE.out]; rfl, hbf⟩
/-- What stands ahead of a page's cells, and they. -/
def hdL (no gsn : Int) (n : Nat) : List UInt8 := be 1 no.toNat ++ be 8 gsn.toNat ++ be 1 n
def clL (l : List (ByteArray × ByteArray)) : List UInt8 := l.flatMap fun c => ltL c.1 ++ ltL c.2
def bodyL (no gsn : Int) (l : List (ByteArray × ByteArray)) : List UInt8 := hdL no gsn l.length ++ clL l
/-- A page's bytes. -/
def pgBytes (no gsn : Int) (l : List (ByteArray × ByteArray)) : ByteArray := sealStr (bodyL no gsn l ++ List.replicate (252 - (bodyL no gsn l).length) 0)
theorem hdL_len (no gsn : Int) (n : Nat) : (hdL no gsn n).length = 10 := by unfold hdL; simp [be_len]
theorem ltL_len (s : ByteArray) : (ltL s).length = 1 + s.size := by unfold ltL; rw [List.length_append, be_len]; rfl
theorem clL_succ (l : List (ByteArray × ByteArray)) (k : Nat) (h : k < l.length) : clL (l.take (k + 1)) = clL (l.take k) ++ (ltL (l.getD k noCl).1 ++ ltL (l.getD k noCl).2) := by
  unfold clL
  rw [List.take_succ_eq_append_getElem h, List.flatMap_append, List.getD_eq_getElem?_getD, List.getElem?_eq_getElem h]
  simp
theorem clL_len (l : List (ByteArray × ByteArray)) (h : ∀ k, k < l.length → (l.getD k noCl).1.size ≤ 8 ∧ (l.getD k noCl).2.size ≤ 16) : ∀ k, k ≤ l.length → (clL (l.take k)).length ≤ 26 * k
  | 0, _ => Nat.le_refl _
  | k + 1, hk => by
    have ih := clL_len l h k (by omega)
    obtain ⟨a, b⟩ := h k (by omega)
    rw [clL_succ l k (by omega), List.length_append, List.length_append, ltL_len, ltL_len]
    omega
theorem cell_small {l : List (ByteArray × ByteArray)} (h : cellsB l = true) (k : Nat) (hk : k < l.length) : (l.getD k noCl).1.size ≤ 8 ∧ (l.getD k noCl).2.size ≤ 16 := by
  unfold cellsB at h
  rw [List.all_eq_true] at h
  have := h k (List.mem_range.2 hk)
  unfold cellB kyOk at this
  simp only [Bool.and_eq_true, decide_eq_true_iff] at this
  omega
end Go.Proofs.YtkemhkmabbladaaGreatDoor
