/-
  THE WALK OF quadrigalaw03.FrameTurned: it returns true, and writes nothing that was there.
-/
import Derived.Test.YtpfgdmjgeelobaaDoorFrLong
import Derived.Test.YtpfgdmjgeelobaaDoorFrWake
import Derived.Test.YtpfgdmjgeelobaaDoorSumBurst
import Derived.Test.YtpfgdmjgeelobaaDoorFrVars
namespace Go.Proofs.YtpfgdmjgeelobaaDoor
open Go.RowKit Crc

theorem turn1_head (at_ b i : Nat) (l : List UInt8) (h : 8 ≤ at_) : (turn1 at_ b i l).take 1 = l.take 1 := by
  unfold turn1
  split
  · cases l with
    | nil => rfl
    | cons c t =>
      obtain ⟨k, hk⟩ : ∃ k, (at_ + i) / 8 = k + 1 := ⟨(at_ + i) / 8 - 1, by omega⟩
      rw [hk, List.set_cons_succ]
      rfl
  · rfl
theorem turnTo_head (at_ b : Nat) (h : 8 ≤ at_) : ∀ (n : Nat) (l : List UInt8), (turnTo at_ b n l).take 1 = l.take 1
  | 0, _ => rfl
  | n + 1, l => by rw [turnTo, turn1_head at_ b n _ h, turnTo_head at_ b h n l]

/-- A burst behind the first byte is told. -/
theorem burst_told (e a g : Int) (d : ByteArray) (at_ b : Nat) (G : ByteArray) (hr : frRight e a g d.size = true) (h8 : 8 ≤ at_) (hG : G = ⟨(turnTo at_ b 32 (frStr e a g d).data.toList).toArray⟩) :
    G = frStr e a g d ∨ ((G.toList == (frStr e a g d).toList) = false ∧ frOk G = false) := by
  rcases sealed_parts (frBody e a g d) G at_ b hG with ⟨h1, _⟩ | ⟨h1, h2⟩
  · exact .inl h1
  · refine .inr ⟨h1, ?_⟩
    have hGl : G.data.toList = turnTo at_ b 32 (frStr e a g d).data.toList := by rw [hG]
    have hsz : G.size = 25 + d.size := by
      have : G.data.toList.length = G.size := list_len G
      rw [← this, hGl, turnTo_len, list_len, frStr_size]
    have hx : frStr e a g d ++ (⟨#[]⟩ : ByteArray) = frStr e a g d := by
      apply ByteArray.ext; simp [ByteArray.data_append]
    have hn : frN G = d.size := by
      have := (made_parts e a g d ⟨#[]⟩ hr).1
      rw [hx] at this
      rw [← this]
      unfold frN
      rw [hGl, turnTo_head at_ b h8]
    have hext : G.extract 0 (25 + frN G) = G := by
      apply ByteArray.ext
      apply Array.toList_inj.1
      rw [extract_list, List.drop_zero, List.take_of_length_le (by rw [list_len]; omega)]
    have hs : isSealed G = false := by
      unfold openRes at h2
      cases hse : isSealed G
      · rfl
      · rw [hse] at h2; simp at h2
    unfold frOk
    rw [hext, hs]; simp
theorem made_alone (e a g : Int) (d : ByteArray) (hr : frRight e a g d.size = true) : openVal (frStr e a g d) = .tuple #[.agg #[.int .i64 e, .int .i64 a, .int .i64 g, .string d], .int .i64 ((frStr e a g d).size : Int), .bool true] := by
  have hx : frStr e a g d ++ (⟨#[]⟩ : ByteArray) = frStr e a g d := by
    apply ByteArray.ext; simp [ByteArray.data_append]
  obtain ⟨h1, h2, h3, h4, h5, h6, h7⟩ := made_parts e a g d ⟨#[]⟩ hr
  rw [hx] at h1 h2 h3 h4 h5 h6 h7
  rw [openVal_yes h7, h1, h2, h3, h4, h5, frStr_size]

set_option maxHeartbeats 1000000 in
theorem frameTurned_walk (e a g : Int) (d : ByteArray) (at_ n0 : Int) (w : World) (he : (Lit.int .i64 e).wf = true) (ha : (Lit.int .i64 a).wf = true) (hg : (Lit.int .i64 g).wf = true) (hd : d.size ≤ maxLen)
    (hn0 : (Lit.int .u32 n0).wf = true) (ht : Tab w) :
    Calls Tryd.prog 6 #[.agg #[.int .i64 e, .int .i64 a, .int .i64 g, .string d], .int .i64 at_, .int .u32 n0] w fun x w' => x = .returned (.bool true) ∧ Below w.heap.size w w' := by
  have HT := Lib.hid ht; clear ht
  unfold maxLen at hd
  obtain ⟨b, rfl⟩ : ∃ b : BitVec 32, n0 = (b.toNat : Int) := by
    have hb := bounds_u32 hn0
    exact ⟨BitVec.ofNat 32 n0.toNat, by rw [BitVec.toNat_ofNat, Nat.mod_eq_of_lt (by omega)]; omega⟩
  clear hn0
  have KA := Lib.hid (fun W (hW : Below w.heap.size w W) => awake_fr W (HT.out.below hW))
  have KM := Lib.hid (fun W (hW : Below w.heap.size w W) => make_alone e a g d W he ha hg hd (HT.out.below hW))
  have KR := Lib.hid (fun W => refRight_all e a g d W)
  have hw0 : Below w.heap.size w (w.alloc (.cells #[.int .i64 e, .int .i64 a, .int .i64 g, .string d] 23)) := (Below.refl _ _).alloc (Nat.le_refl _) _
  clear he ha hg hd
  cases hr : frRight e a g d.size
  · have hM : makeStr e a g d = ⟨#[]⟩ := by unfold makeStr; rw [if_neg (by rw [hr]; simp)]
    rw [hM] at KM
    rw [hr] at KR
    clear hr hM
    go_enter Tryd.func6, Tryd.ntmps6
    go_wp2_with fail
    refine (KM.out _ hw0).mono ?_
    rintro x w1 ⟨rfl, hb1⟩
    have hbw1 := bw_call hb1 hw0
    have hv := var_cells hb1
    have k0 := hv 0
    have k1 := hv 1
    have k2 := hv 2
    have k3 := hv 3
    simp only [List.getElem?_toArray, List.getElem?_cons_zero, List.getElem?_cons_succ] at k0 k1 k2 k3
    go_wp2_with fail
    refine (KR.out _).mono ?_
    rintro x w2 ⟨rfl, hb2⟩
    have hbw2 := bw_call hb2 hbw1
    go_wp2_with fail
    refine (KA.out _ hbw2).mono ?_
    rintro x w3 ⟨rfl, hb3⟩
    have hbw3 := bw_call hb3 hbw2
    go_wp2
    go_ret
    exact ⟨rfl, hbw3⟩
  · have hM : makeStr e a g d = frStr e a g d := by unfold makeStr; rw [if_pos hr]
    rw [hM] at KM
    have hnd := (frRight_parts hr).2.2.2
    have hSz := frStr_size e a g d
    obtain ⟨p, ep, hp⟩ := turn_place at_ (8 * ((frStr e a g d).size : Int) - 8) (by omega)
    obtain ⟨G, hG⟩ : ∃ G : ByteArray, G = ⟨(turnTo (8 + p) b.toNat 32 (frStr e a g d).data.toList).toArray⟩ := ⟨_, rfl⟩
    have hGs : G.size = (frStr e a g d).size := by rw [hG]; show (List.toArray _).size = _; rw [List.size_toArray, turnTo_len, list_len]
    have KT := Lib.hid (fun W => turned_any (frStr e a g d) (8 + p) b W (by omega) (by omega) (by omega))
    rw [← hG] at KT
    have KO := Lib.hid (fun W (hW : Below w.heap.size w W) => open_fr G W (by omega) (HT.out.below hW))
    have hpp : (((8 + p : Nat)) : Int) = 8 + (p : Int) := by omega
    rw [hpp] at KT
    have hyes := made_alone e a g d hr
    rcases burst_told e a g d (8 + p) b.toNat G hr (by omega) hG with hs | ⟨hs1, hs2⟩
    · clear hG
      subst hs
      rw [hyes] at KO
      have hS25 : (25 : Int) ≤ ((frStr e a g d).size : Int) := by omega
      have hS300 : ((frStr e a g d).size : Int) ≤ 300 := by omega
      have hS301 : (frStr e a g d).size ≤ 300 := by omega
      clear hr hM hnd hSz hyes hGs KR hpp
      generalize frStr e a g d = S at *
      go_enter Tryd.func6, Tryd.ntmps6
      go_wp2_with fail
      refine (KM.out _ hw0).mono ?_
      rintro x w1 ⟨rfl, hb1⟩
      have hbw1 := bw_call hb1 hw0
      have hv := var_cells hb1
      have k0 := hv 0
      have k1 := hv 1
      have k2 := hv 2
      have k3 := hv 3
      simp only [List.getElem?_toArray, List.getElem?_cons_zero, List.getElem?_cons_succ] at k0 k1 k2 k3
      go_wp2_with fail
      refine (KT.out _).mono ?_
      rintro x w2 ⟨rfl, hb2⟩
      have hbw2 := bw_call hb2 hbw1
      go_wp2_with fail
      refine (KO.out _ hbw2).mono ?_
      rintro x w3 ⟨rfl, hb3⟩
      have hbw3 := bw_call hb3 hbw2
      have m0 := fun o => keep_alloc (o := o) (keep_cell hb3 (keep_cell hb2 k0))
      have m1 := fun o => keep_alloc (o := o) (keep_cell hb3 (keep_cell hb2 k1))
      have m2 := fun o => keep_alloc (o := o) (keep_cell hb3 (keep_cell hb2 k2))
      have m3 := fun o => keep_alloc (o := o) (keep_cell hb3 (keep_cell hb2 k3))
      go_wp2_with fail
      refine (KA.out _ (bw_alloc hbw3)).mono ?_
      rintro x w4 ⟨rfl, hb4⟩
      have hbw4 := bw_call hb4 (bw_alloc hbw3)
      go_wp2
      go_ret
      exact ⟨rfl, hbw4⟩
    · rw [openVal_no hs2] at KO
      have hS25 : (25 : Int) ≤ ((frStr e a g d).size : Int) := by omega
      have hS300 : ((frStr e a g d).size : Int) ≤ 300 := by omega
      have hS301 : (frStr e a g d).size ≤ 300 := by omega
      clear hr hM hnd hSz hyes hGs KR hpp hG hs2
      generalize frStr e a g d = S at *
      go_enter Tryd.func6, Tryd.ntmps6
      go_wp2_with fail
      refine (KM.out _ hw0).mono ?_
      rintro x w1 ⟨rfl, hb1⟩
      have hbw1 := bw_call hb1 hw0
      go_wp2_with fail
      refine (KT.out _).mono ?_
      rintro x w2 ⟨rfl, hb2⟩
      have hbw2 := bw_call hb2 hbw1
      go_wp2_with fail
      refine (KO.out _ hbw2).mono ?_
      rintro x w3 ⟨rfl, hb3⟩
      have hbw3 := bw_call hb3 hbw2
      go_wp2_with fail
      refine (KA.out _ (bw_alloc hbw3)).mono ?_
      rintro x w4 ⟨rfl, hb4⟩
      have hbw4 := bw_call hb4 (bw_alloc hbw3)
      go_wp2
      go_ret
      exact ⟨rfl, hbw4⟩
end Go.Proofs.YtpfgdmjgeelobaaDoor
