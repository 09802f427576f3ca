/-
  FRAMES LAID ONE BEHIND THE OTHER ARE A CHAIN; cut off anywhere those ahead are. No program in sight.
-/
import Derived.Test.YtpfgdmjgeelobaaDoorFrChain
namespace Go.Proofs.YtpfgdmjgeelobaaDoor
open Go.RowKit Crc

def strm (ep : Int) : Int → Int → List ByteArray → ByteArray
  | _, _, [] => ⟨#[]⟩
  | at_, g, d :: ds => frStr ep at_ g d ++ strm ep (at_ + ((25 + d.size : Nat) : Int)) (g + 3) ds
def frs (ep : Int) : Int → Int → List ByteArray → List Fr
  | _, _, [] => []
  | at_, g, d :: ds => ⟨ep, at_, g, d⟩ :: frs ep (at_ + ((25 + d.size : Nat) : Int)) (g + 3) ds
theorem frs_len (ep : Int) : ∀ (ds : List ByteArray) (at_ g : Int), (frs ep at_ g ds).length = ds.length
  | [], _, _ => rfl
  | d :: ds, at_, g => by rw [frs, List.length_cons, frs_len ep ds, List.length_cons]
theorem frs_get (ep : Int) : ∀ (ds : List ByteArray) (at_ g : Int) (i : Nat), i < ds.length → ((frs ep at_ g ds).getD i ⟨0, 0, 0, ByteArray.empty⟩).d = ds.getD i ByteArray.empty ∧ ((frs ep at_ g ds).getD i ⟨0, 0, 0, ByteArray.empty⟩).g = g + 3 * (i : Int)
  | [], _, _, _, h => by simp at h
  | d :: ds, at_, g, 0, _ => ⟨rfl, by show g = g + 3 * ((0 : Nat) : Int); omega⟩
  | d :: ds, at_, g, i + 1, h => by
    have := frs_get ep ds (at_ + ((25 + d.size : Nat) : Int)) (g + 3) i (by simpa using h)
    refine ⟨this.1, ?_⟩
    show ((frs ep (at_ + ((25 + d.size : Nat) : Int)) (g + 3) ds).getD i ⟨0, 0, 0, ByteArray.empty⟩).g = _
    rw [this.2]; omega
theorem strm_snoc (ep : Int) : ∀ (ds : List ByteArray) (at_ g : Int) (d : ByteArray), strm ep at_ g (ds ++ [d]) = strm ep at_ g ds ++ frStr ep (at_ + ((strm ep at_ g ds).size : Int)) (g + 3 * (ds.length : Int)) d
  | [], at_, g, d => by
    show frStr ep at_ g d ++ ⟨#[]⟩ = ⟨#[]⟩ ++ frStr ep (at_ + ((0 : Nat) : Int)) (g + 3 * ((0 : Nat) : Int)) d
    rw [show at_ + ((0 : Nat) : Int) = at_ from by omega, show g + 3 * ((0 : Nat) : Int) = g from by omega]
    apply ByteArray.ext; simp [ByteArray.data_append]
  | c :: ds, at_, g, d => by
    show frStr ep at_ g c ++ strm ep (at_ + ((25 + c.size : Nat) : Int)) (g + 3) (ds ++ [d]) = (frStr ep at_ g c ++ strm ep (at_ + ((25 + c.size : Nat) : Int)) (g + 3) ds) ++ _
    rw [strm_snoc ep ds]
    have h1 : (strm ep at_ g (c :: ds)).size = 25 + c.size + (strm ep (at_ + ((25 + c.size : Nat) : Int)) (g + 3) ds).size := by
      show (frStr ep at_ g c ++ _).size = _
      rw [ByteArray.size_append, frStr_size]
    rw [h1, List.length_cons]
    rw [show at_ + ((25 + c.size : Nat) : Int) + ((strm ep (at_ + ((25 + c.size : Nat) : Int)) (g + 3) ds).size : Int) = at_ + ((25 + c.size + (strm ep (at_ + ((25 + c.size : Nat) : Int)) (g + 3) ds).size : Nat) : Int) from by omega,
      show g + 3 + 3 * (ds.length : Int) = g + 3 * ((ds.length + 1 : Nat) : Int) from by omega]
    apply ByteArray.ext; simp [ByteArray.data_append]
theorem strm_le (ep : Int) : ∀ (ds : List ByteArray) (at_ g : Int), (∀ d ∈ ds, d.size ≤ 200) → (strm ep at_ g ds).size ≤ 225 * ds.length
  | [], _, _, _ => by show (0 : Nat) ≤ _; omega
  | d :: ds, at_, g, h => by
    have ih := strm_le ep ds (at_ + ((25 + d.size : Nat) : Int)) (g + 3) (fun x hx => h x (List.mem_cons_of_mem _ hx))
    have hd := h d (List.mem_cons_self ..)
    show (frStr ep at_ g d ++ _).size ≤ _
    rw [ByteArray.size_append, frStr_size, List.length_cons]; omega
theorem strm_pos (ep at_ g : Int) (ds : List ByteArray) (h : ds ≠ []) : 0 < (strm ep at_ g ds).size := by
  cases ds with
  | nil => exact absurd rfl h
  | cons d ds => show 0 < (frStr ep at_ g d ++ _).size; rw [ByteArray.size_append, frStr_size]; omega

theorem fits_own (ep cut at_ g ab : Int) (h : ab < g) : frFits ep cut ep at_ g at_ ab = true := by
  unfold frFits
  by_cases hc : at_ < cut
  · simp [h, hc]
  · simp [h, hc]
theorem behind_made (e a g : Int) (d t : ByteArray) (_hr : frRight e a g d.size = true) : (frStr e a g d ++ t).extract (25 + d.size) (frStr e a g d ++ t).size = t := by
  apply ByteArray.ext
  apply Array.toList_inj.1
  have hz := frStr_size e a g d
  have hl : (frStr e a g d).data.toList.length = 25 + d.size := by rw [list_len, hz]
  rw [extract_list, ByteArray.data_append, Array.toList_append, ByteArray.size_append, hz, List.drop_left' hl, List.take_of_length_le (by rw [list_len]; omega)]

theorem chain_strm (ep cut : Int) (t : ByteArray) (ht : frOk t = false) (he : 0 ≤ ep ∧ ep ≤ 2147483647) : ∀ (ds : List ByteArray) (at_ g ab : Int) (n : Nat), (∀ d ∈ ds, d.size ≤ 200) → 0 ≤ at_ → 0 ≤ g → at_ + 225 * (ds.length : Int) ≤ 4611686018427387903 →
    g + 3 * (ds.length : Int) ≤ 4611686018427387903 → ab < g → (strm ep at_ g ds ++ t).size < n → chain ep cut n (strm ep at_ g ds ++ t) at_ ab = (frs ep at_ g ds, at_ + ((strm ep at_ g ds).size : Int))
  | [], at_, g, ab, n, _, _, _, _, _, _, hn => by
    obtain ⟨m, rfl⟩ : ∃ m, n = m + 1 := ⟨n - 1, by omega⟩
    have hx : strm ep at_ g [] ++ t = t := by apply ByteArray.ext; simp [strm, ByteArray.data_append]
    rw [hx, chain_stop (by rw [ht]; rfl)]
    show _ = ([], at_ + ((0 : Nat) : Int))
    rw [show at_ + ((0 : Nat) : Int) = at_ from by omega]
  | d :: ds, at_, g, ab, n, hd, ha, hg, hat, hgt, hab, hn => by
    obtain ⟨m, rfl⟩ : ∃ m, n = m + 1 := ⟨n - 1, by omega⟩
    have hds := hd d (List.mem_cons_self ..)
    rw [List.length_cons] at hat hgt
    have hr : frRight ep at_ g d.size = true := frRight_of ⟨he, by omega, by omega, hds⟩
    have hx : strm ep at_ g (d :: ds) ++ t = frStr ep at_ g d ++ (strm ep (at_ + ((25 + d.size : Nat) : Int)) (g + 3) ds ++ t) := by
      show (frStr ep at_ g d ++ _) ++ t = _
      apply ByteArray.ext; simp [ByteArray.data_append]
    have hsz : (strm ep at_ g (d :: ds)).size = 25 + d.size + (strm ep (at_ + ((25 + d.size : Nat) : Int)) (g + 3) ds).size := by
      show (frStr ep at_ g d ++ _).size = _
      rw [ByteArray.size_append, frStr_size]
    rw [ByteArray.size_append, hsz] at hn
    rw [hx]
    obtain ⟨h1, h2, h3, h4, h5, _, h7⟩ := made_parts ep at_ g d (strm ep (at_ + ((25 + d.size : Nat) : Int)) (g + 3) ds ++ t) hr
    rw [chain_go (by rw [h2, h3, h4, h7, fits_own ep cut at_ g ab hab]; rfl)]
    rw [h1, h2, h3, h4, h5, behind_made ep at_ g d _ hr]
    have ih := chain_strm ep cut t ht he ds (at_ + ((25 + d.size : Nat) : Int)) (g + 3) g m (fun x hx => hd x (List.mem_cons_of_mem _ hx)) (by omega) (by omega) (by omega) (by omega) (by omega) (by rw [ByteArray.size_append]; omega)
    rw [ih, hsz]
    show (_ :: _, _) = (_ :: _, _)
    congr 1
    omega

theorem short_not (X : ByteArray) (h : X.size < 25 + frN X) : frOk X = false := by
  unfold frOk
  simp [show ¬ 25 + frN X ≤ X.size from by omega]
theorem chain_cut (ep cut : Int) (he : 0 ≤ ep ∧ ep ≤ 2147483647) : ∀ (ds : List ByteArray) (at_ g ab : Int) (n c : Nat), (∀ d ∈ ds, d.size ≤ 200) → 0 ≤ at_ → 0 ≤ g → at_ + 225 * (ds.length : Int) ≤ 4611686018427387903 →
    g + 3 * (ds.length : Int) ≤ 4611686018427387903 → ab < g → c < (strm ep at_ g ds).size → c < n →
    ∃ j, j < ds.length ∧ (chain ep cut n ((strm ep at_ g ds).extract 0 c) at_ ab).1 = (frs ep at_ g ds).take j ∧ (chain ep cut n ((strm ep at_ g ds).extract 0 c) at_ ab).2 ≤ at_ + (c : Int)
  | [], at_, g, ab, n, c, _, _, _, _, _, _, hc, _ => by exact absurd hc (by show ¬ c < 0; omega)
  | d :: ds, at_, g, ab, n, c, hd, ha, hg, hat, hgt, hab, hc, hn => by
    obtain ⟨m, rfl⟩ : ∃ m, n = m + 1 := ⟨n - 1, by omega⟩
    have hds := hd d (List.mem_cons_self ..)
    rw [List.length_cons] at hat hgt
    have hr : frRight ep at_ g d.size = true := frRight_of ⟨he, by omega, by omega, hds⟩
    have hsz : (strm ep at_ g (d :: ds)).size = 25 + d.size + (strm ep (at_ + ((25 + d.size : Nat) : Int)) (g + 3) ds).size := by
      show (frStr ep at_ g d ++ _).size = _
      rw [ByteArray.size_append, frStr_size]
    have hz := frStr_size ep at_ g d
    have hl : (frStr ep at_ g d).data.toList.length = 25 + d.size := by rw [list_len, hz]
    by_cases hcc : 25 + d.size ≤ c
    · have hx : (strm ep at_ g (d :: ds)).extract 0 c = frStr ep at_ g d ++ (strm ep (at_ + ((25 + d.size : Nat) : Int)) (g + 3) ds).extract 0 (c - (25 + d.size)) := by
        show (frStr ep at_ g d ++ _).extract 0 c = _
        apply ByteArray.ext
        apply Array.toList_inj.1
        rw [extract_list, ByteArray.data_append, Array.toList_append, ByteArray.data_append, Array.toList_append, extract_list, List.drop_zero, List.drop_zero, List.take_append, hl, List.take_of_length_le (by omega)]
        simp
      rw [hx]
      obtain ⟨h1, h2, h3, h4, h5, _, h7⟩ := made_parts ep at_ g d ((strm ep (at_ + ((25 + d.size : Nat) : Int)) (g + 3) ds).extract 0 (c - (25 + d.size))) hr
      rw [chain_go (by rw [h2, h3, h4, h7, fits_own ep cut at_ g ab hab]; rfl)]
      rw [h1, h2, h3, h4, h5, behind_made ep at_ g d _ hr]
      obtain ⟨j, hj, hj1, hj2⟩ := chain_cut ep cut he ds (at_ + ((25 + d.size : Nat) : Int)) (g + 3) g m (c - (25 + d.size)) (fun x hx => hd x (List.mem_cons_of_mem _ hx)) (by omega) (by omega) (by omega) (by omega) (by omega) (by omega) (by omega)
      refine ⟨j + 1, by rw [List.length_cons]; omega, ?_, ?_⟩
      · show _ :: _ = (_ :: _).take (j + 1)
        rw [hj1, List.take_succ_cons]
      · show _ ≤ _
        refine Int.le_trans hj2 ?_
        omega
    · have hno : frOk ((strm ep at_ g (d :: ds)).extract 0 c) = false := by
        have hxs : ((strm ep at_ g (d :: ds)).extract 0 c).size = c := by rw [ByteArray.size_extract]; omega
        by_cases h25 : c < 25
        · exact short_not _ (by omega)
        · apply short_not
          rw [hxs]
          have hn2 : frN ((strm ep at_ g (d :: ds)).extract 0 c) = d.size := by
            obtain ⟨h1, _⟩ := made_parts ep at_ g d (strm ep (at_ + ((25 + d.size : Nat) : Int)) (g + 3) ds) hr
            rw [← h1]
            unfold frN
            rw [extract_list, List.drop_zero, List.take_take]
            show beVal (((frStr ep at_ g d ++ _).data.toList).take (min 1 (c - 0))) = _
            rw [show min 1 (c - 0) = 1 from by omega]
          omega
      refine ⟨0, by rw [List.length_cons]; omega, ?_, ?_⟩
      · rw [chain_stop (by rw [hno]; rfl)]; rfl
      · rw [chain_stop (by rw [hno]; rfl)]; show at_ ≤ at_ + (c : Int); omega
end Go.Proofs.YtpfgdmjgeelobaaDoor
