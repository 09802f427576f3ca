/-
  PageBytes: THE LAW'S WALK.
-/
import Derived.Test.YtgkpbchpjgkblaaDoorPgBytesA
import Derived.Deep.Cut
import Derived.Deep.CutRange
import Derived.Deep.DeepCutAuto
import Derived.Deep.CutBlock
namespace Go.Proofs.YtgkpbchpjgkblaaDoor
open Go.RowKit
set_option maxRecDepth 100000 in
set_option maxHeartbeats 8000000 in
theorem pageBytes_main (n1 g1 : Int) (a1 : Option Addr) (l1 : List (ByteArray × ByteArray)) (c1 : Nat) (n2 g2 : Int) (a2 : Option Addr) (l2 : List (ByteArray × ByteArray)) (c2 : Nat) (s : ByteArray) (w : World) (hn1 : l1.length ≤ maxLen) (hn2 : l2.length ≤ maxLen) (ha : ClsAt w a1 l1) (hb : ClsAt w a2 l2) (ht : Tab w) (hG1 : clGreat l1 = false) (hG2 : clGreat l2 = false) (hs : s.size ≤ 1000) :
    Calls Tryd.prog 5 #[.agg #[.int .i64 n1, .int .i64 g1, .slice a1 l1.length c1], .agg #[.int .i64 n2, .int .i64 g2, .slice a2 l2.length c2], .string s] w fun e w' => e = .returned (.bool true) ∧ Below w.heap.size w w' := by
  have E0 := Lib.hid (PgE.mk (W := w) ha hb ht)

  have KGA := Lib.hid (fun W (h : PgE W a1 l1 a2 l2) => great_any n1 g1 a1 l1 c1 W hn1 h.ca)
  have KGB := Lib.hid (fun W (h : PgE W a1 l1 a2 l2) => great_any n2 g2 a2 l2 c2 W hn2 h.cb)
  have KRR := Lib.hid (fun W (h : PgE W a1 l1 a2 l2) => refRight_any n1 g1 a1 l1 c1 W hn1 h.ca)
  have KRL := Lib.hid (fun W (hk : pgOk n1 g1 l1 = true) (h : PgE W a1 l1 a2 l2) => refPgLaid_any n1 g1 a1 l1 c1 W h.ca hk)
  have KRD := Lib.hid (fun W (h : Tab W) => (read_any s W (by omega) h).mono (fun _ _ hh => tk_one hh))
  have KRE := Lib.hid (fun W => (refRead_any s W).mono (fun _ _ hh => tk_one hh))
  have KLA := Lib.hid (fun W (h : ClsAt W a1 l1) (ht : Tab W) => pgLaid_all n1 g1 a1 l1 c1 W hn1 h ht)
  have KAW := Lib.hid (fun W (h : Tab W) => awake11_any W h)
  have hl1 := (clGreat_no hG1).1
  have hl2 := (clGreat_no hG2).1
  rw [hG1] at KGA
  rw [hG2] at KGB
  have hsi : (s.size : Int) ≤ 1000 := by omega
  have HWV : Hid (pgW n1 g1 l1 = if pgOk n1 g1 l1 = true then pgBytes n1 g1 l1 else ⟨#[]⟩) := rfl
  generalize pgW n1 g1 l1 = WV at *
  clear ha hb ht hG1 hG2
  go_enter Tryd.func5, Tryd.ntmps5
  go_wp2_with fail
  refine (KGA.out _ E0.out.alloc.alloc).mono ?_
  rintro e w1 ⟨rfl, hb1⟩
  have E1 := Lib.hid (PgE.below hb1 E0.out.alloc.alloc)
  have B1 := Lib.hid (bw_call hb1 (bw_alloc (bw_alloc (Below.refl _ w))))
  have a0 : Hid (w1.cell? ⟨w.heap.size, 0, none⟩ = some (.int .i64 n1)) := keep_cell hb1 (keep_alloc (new_cell rfl rfl))
  have a1' : Hid (w1.cell? ⟨w.heap.size, 1, none⟩ = some (.int .i64 g1)) := keep_cell hb1 (keep_alloc (new_cell rfl rfl))
  have a2' : Hid (w1.cell? ⟨w.heap.size, 2, none⟩ = some (.slice a1 l1.length c1)) := keep_cell hb1 (keep_alloc (new_cell rfl rfl))
  have b0 : w1.cell? ⟨w.heap.size + 1, 0, none⟩ = some (.int .i64 n2) := keep_cell hb1 (new_cell (by rw [World.size_alloc]) rfl)
  have b1 : w1.cell? ⟨w.heap.size + 1, 1, none⟩ = some (.int .i64 g2) := keep_cell hb1 (new_cell (by rw [World.size_alloc]) rfl)
  have b2 : w1.cell? ⟨w.heap.size + 1, 2, none⟩ = some (.slice a2 l2.length c2) := keep_cell hb1 (new_cell (by rw [World.size_alloc]) rfl)
  clear hb1 KGA
  go_wp2_with fail
  refine (KGB.out _ E1.out).mono ?_
  rintro e w2 ⟨rfl, hb2⟩
  have E2 := Lib.hid (PgE.below hb2 E1.out)
  have B2 := Lib.hid (bw_call hb2 B1.out)
  have p0 := keep_cell hb2 a0.out
  have p1 := keep_cell hb2 a1'.out
  have p2 := keep_cell hb2 a2'.out
  have q0 := Lib.hid (keep_cell hb2 b0)
  have q1 := Lib.hid (keep_cell hb2 b1)
  have q2 := Lib.hid (keep_cell hb2 b2)
  clear hb2 KGB a0 a1' a2' b0 b1 b2 E1 B1
  obtain ⟨PB, hPB⟩ : ∃ x, x = w.heap.size + 1 := ⟨_, rfl⟩
  rw [← hPB] at q0 q1 q2 ⊢
  have HPB := Lib.hid hPB
  clear hPB
  obtain ⟨PA, hPA⟩ : ∃ x, x = w.heap.size := ⟨_, rfl⟩
  rw [← hPA] at p0 p1 p2 ⊢
  have HPA := Lib.hid hPA
  clear hPA
  obtain ⟨ok, hok⟩ : ∃ x, pgOk n1 g1 l1 = x := ⟨_, rfl⟩
  rw [hok] at KRR KRL HWV
  go_wp2_with fail
  refine (KRR.out _ E2.out).mono ?_
  rintro e w3 ⟨rfl, hb3⟩
  have E3 := Lib.hid (PgE.below hb3 E2.out)
  have B3 := Lib.hid (bw_call hb3 B2.out)
  have p0 := keep_cell hb3 p0
  have p1 := keep_cell hb3 p1
  have p2 := keep_cell hb3 p2
  have q0 := Lib.hid (keep_cell hb3 q0.out)
  have q1 := Lib.hid (keep_cell hb3 q1.out)
  have q2 := Lib.hid (keep_cell hb3 q2.out)
  have HOK := Lib.hid hok
  clear hb3 KRR E2 B2 hok
  go_upto_if 30 with fail
  go_cut [7] (fun s7 wx => s7 = .string WV ∧ Below w3.heap.size w3 wx)
  case first =>
    cases ok with
    | true =>
      go_wp2_with fail
      refine (KRL.out _ trivial E3.out).mono ?_
      rintro e w4 ⟨rfl, hb4⟩
      have HB4 := Lib.hid hb4
      have HWV2 : Hid (WV = pgBytes n1 g1 l1) := by have := HWV.out; rwa [if_pos (by trivial)] at this
      clear hb4
      go_wp2_with fail
      go_meet
      exact ⟨by rw [HWV2.out], HB4.out⟩
    | false =>
      have HWV2 : Hid (WV = ⟨#[]⟩) := by have := HWV.out; rwa [if_neg (by simp)] at this
      go_wp2_with fail
      go_meet
      exact ⟨by rw [HWV2.out], Below.refl _ _⟩
  case rest =>
  obtain ⟨rfl, hbx⟩ := hcut
  rename World => wx
  have HBX := Lib.hid hbx
  have EX := Lib.hid (PgE.below hbx E3.out)
  have BX := Lib.hid (bw_call hbx B3.out)
  clear hbx KRL HWV HOK E3 B3
  go_wp2_with fail
  refine (KRD.out _ EX.out.tab).mono ?_
  rintro e w5 ⟨a3, c3, rfl, hcl3, hb5⟩
  have hrl := rdL_len s
  obtain ⟨n3, hn3⟩ : ∃ x, x = rdN s := ⟨_, rfl⟩
  obtain ⟨g3, hg3⟩ : ∃ x, x = rdG s := ⟨_, rfl⟩
  obtain ⟨l3, hl3⟩ : ∃ x, x = rdL s := ⟨_, rfl⟩
  obtain ⟨b3, hb3⟩ : ∃ x, x = rdB s := ⟨_, rfl⟩
  have KRE2 : Hid (∀ W, Calls Tryd.prog 19 #[.string s] W fun e w' => ∃ a c, e = .returned (.tuple #[.agg #[.int .i64 n3, .int .i64 g3, .slice a l3.length c], .bool b3]) ∧ ClsAt w' a l3 ∧ Below W.heap.size W w') := fun W => by
    rw [hn3, hg3, hl3, hb3]; exact KRE.out W
  rw [← hl3] at hcl3 hrl
  rw [← hn3, ← hg3, ← hl3, ← hb3]
  have E5 := Lib.hid (PgE.below hb5 EX.out)
  have B5 := Lib.hid (bw_call hb5 BX.out)
  have CL3 := Lib.hid hcl3
  have p0 := Lib.hid (keep_cell hb5 (keep_cell HBX.out p0))
  have p1 := Lib.hid (keep_cell hb5 (keep_cell HBX.out p1))
  have p2 := Lib.hid (keep_cell hb5 (keep_cell HBX.out p2))
  have q0 := Lib.hid (keep_cell hb5 (keep_cell HBX.out q0.out))
  have q1 := Lib.hid (keep_cell hb5 (keep_cell HBX.out q1.out))
  have q2 := Lib.hid (keep_cell hb5 (keep_cell HBX.out q2.out))
  clear hn3 hg3 hl3 hb3 hcl3 hb5 KRD KRE EX BX HBX
  go_wp2_with fail
  refine (KRE2.out _).mono ?_
  rintro e w6 ⟨a4, c4, rfl, hcl4, hb6⟩
  have L0 : Hid (LwB (w6.alloc (.cells #[.int .i64 n3, .int .i64 g3, .slice a4 l3.length c4] 24)) PA PB w5.heap.size w6.heap.size n1 g1 a1 l1 c1 n2 g2 a2 l2 c2 n3 g3 a3 c3 a4 c4 l3) := by
    have k5 : Below w5.heap.size w5 (w5.alloc (.cells #[.int .i64 n3, .int .i64 g3, .slice a3 l3.length c3] 24)) := (Below.refl _ _).alloc (Nat.le_refl _) _
    have k6 : Below w5.heap.size w5 w6 := bw_call hb6 k5
    have k8 : Below w6.heap.size w6 (w6.alloc (.cells #[.int .i64 n3, .int .i64 g3, .slice a4 l3.length c4] 24)) := (Below.refl _ _).alloc (Nat.le_refl _) _
    have k7 := bw_call k8 k6
    exact ⟨keep_cell k7 p0.out, keep_cell k7 p1.out, keep_cell k7 p2.out, keep_cell k7 q0.out, keep_cell k7 q1.out, keep_cell k7 q2.out, keep_cell k8 (keep_cell hb6 (new_cell rfl rfl)), keep_cell k8 (keep_cell hb6 (new_cell rfl rfl)), keep_cell k8 (keep_cell hb6 (new_cell rfl rfl)), new_cell rfl rfl, new_cell rfl rfl, new_cell rfl rfl, E5.out.ca.below k7, E5.out.cb.below k7, CL3.out.below k7, hcl4.below k8, E5.out.tab.below k7⟩
  have BW := Lib.hid (bw_alloc (o := .cells #[.int .i64 n3, .int .i64 g3, .slice a4 l3.length c4] 24) (bw_call hb6 (bw_alloc (o := .cells #[.int .i64 n3, .int .i64 g3, .slice a3 l3.length c3] 24) B5.out)))
  clear hcl4 hb6 KRE2 E5 B5 CL3 p0 p1 p2 q0 q1 q2 E0 hn1 hn2 hs hsi
  go_upto_region 8 with fail
  generalize hW0 : w6.alloc (.cells #[.int .i64 n3, .int .i64 g3, .slice a4 l3.length c4] 24) = W0 at *
  clear hW0
  generalize w5.heap.size = PX at *
  generalize w6.heap.size = PY at *
  obtain ⟨KS, hKS⟩ : ∃ x, x = keysOf l1 ++ keysOf l2 := ⟨_, rfl⟩
  have hKl : KS.length = l1.length + l2.length := by rw [hKS, List.length_append, keysOf_len, keysOf_len]
  have HKl := Lib.hid hKl
  have HKS := Lib.hid hKS
  clear hKl hKS
  go_wp2
  go_loopw [12, 13] (fun ks i wr => ∃ (k : Nat) (v : Value), k ≤ KS.length ∧ i = .int .i64 k ∧ v = ks ∧ Hid (RowS wr W0.heap.size v (ofB (inAll (lb (KS.take k))))) ∧ Hid (Below W0.heap.size W0 wr)) (fun _ i _ => KS.length - (intOf i).toNat)
  case atStart => exact ⟨0, _, Nat.zero_le _, rfl, rfl, RowS.none _ _, Below.refl _ _⟩
  case round =>
    obtain ⟨k, v, hk, rfl, rfl, HR, HB⟩ := hrel
    rename World => wb
    have p2 := keep_cell HB.out L0.out.p2
    have q2 := keep_cell HB.out L0.out.q2
    have hkb : (k : Int) ≤ 40 := by have := HKl.out; omega
    have hln : (ofB (inAll (lb (KS.take k)))).length ≤ 40 := by
      rw [ofB_len]
      have h1 := inAll_len (lb (KS.take k))
      rw [lb_len, List.length_take] at h1
      have := HKl.out
      omega
    have HLN := Lib.hid hln
    clear hln
    have hl1i : (l1.length : Int) ≤ 20 := by omega
    have hl2i : (l2.length : Int) ≤ 20 := by omega
    by_cases hlt : k < KS.length
    · have hkk : k < l1.length + l2.length := by have := HKl.out; omega
      have hki : (k : Int) < (l1.length : Int) + (l2.length : Int) := by omega
      have hk0 : (0 : Int) ≤ (k : Int) := by omega
      have HSU := Lib.hid (inAll_succ (lb KS) k (by rw [lb_len]; exact hlt))
      have HKEY := Lib.hid (lb_get KS k hlt)
      obtain ⟨key, hkey⟩ : ∃ x, x = KS.getD k ByteArray.empty := ⟨_, rfl⟩
      have HKY := Lib.hid hkey
      clear hkey
      go_upto_if 58 with fail
      go_cut [14] from 43 to 123 (fun s14 wx => s14 = .string key ∧ wx = wb)
      case first =>
        by_cases hk1 : k < l1.length
        · have hk1i : (k : Int) < (l1.length : Int) := by omega
          obtain ⟨cb, off, rfl, e1, _⟩ := (L0.out.cl1.below HB.out).at hk1
          have hkeq : (l1.getD k noCl).1 = key := by
            rw [HKY.out, HKS.out]
            unfold keysOf
            rw [List.getD_eq_getElem?_getD, List.getD_eq_getElem?_getD, List.getElem?_append_left (by simpa using hk1), List.getElem?_map, List.getElem?_eq_getElem hk1]
            rfl
          rw [hkeq] at e1
          clear hkeq
          go_wp2_with fail
          go_meet
          exact ⟨rfl, rfl⟩
        · have hk1i : (l1.length : Int) ≤ (k : Int) := by omega
          obtain ⟨m, rfl⟩ : ∃ m, k = l1.length + m := ⟨k - l1.length, by omega⟩
          have hm : m < l2.length := by omega
          obtain ⟨cb, off, rfl, e1, _⟩ := (L0.out.cl2.below HB.out).at hm
          have hkeq : (l2.getD m noCl).1 = key := by
            rw [HKY.out, HKS.out]
            unfold keysOf
            rw [List.getD_eq_getElem?_getD, List.getD_eq_getElem?_getD, List.getElem?_append_right (by simp), List.length_map, Nat.add_sub_cancel_left, List.getElem?_map, List.getElem?_eq_getElem hm]
            rfl
          rw [hkeq] at e1
          clear hkeq
          have hmi : (m : Int) < (l2.length : Int) := by omega
          have hsub : ((l1.length + m : Nat) : Int) - (l1.length : Int) = (m : Int) := by omega
          go_wp2_with fail
          go_meet
          exact ⟨rfl, rfl⟩
      case rest =>
      obtain ⟨rfl, rfl⟩ := hcut
      rename World => wb
      have HNX : Hid (ofB (inAll (lb (KS.take (k + 1)))) = ofB (inK key.data.toList (inAll (lb (KS.take k))))) := by
        have e1 : lb (KS.take (k + 1)) = (lb KS).take (k + 1) := by unfold lb; rw [List.map_take]
        have e2 : lb (KS.take k) = (lb KS).take k := by unfold lb; rw [List.map_take]
        rw [Hid, e1, e2, HSU.out, HKEY.out, ← HKY.out]
      obtain ⟨L, hL⟩ : ∃ x, x = inAll (lb (KS.take k)) := ⟨_, rfl⟩
      rw [← hL] at HR HLN HNX
      clear hL HSU HKEY HKY p2 q2 hki hkk hl1i hl2i
      have HPUT := Lib.hid (fun m (h : AtIs (ofB L) key m) => atIs_put h)
      obtain ⟨ts, hts⟩ : ∃ x, x = ofB L := ⟨_, rfl⟩
      rw [← hts] at HR HLN HPUT
      clear hts
      obtain ⟨va, vc, rfl, hka, _⟩ := rowS_shape HR.out
      have HKA := Lib.hid hka
      clear hka
      go_upto_block 2 with fail
      go_cut [15] from 43 to 123 (fun s15 wx => ∃ m : Nat, s15 = .int .i64 m ∧ Hid (AtIs ts key m) ∧ wx = wb)
      case first =>
        have ht40 : (ts.length : Int) ≤ 40 := by have := HLN.out; omega
        go_wp2_with fail
        go_loop [15] (fun at' => ∃ m : Nat, m ≤ ts.length ∧ at' = .int .i64 m ∧ Hid (∀ j, j < m → (ts.getD j ByteArray.empty).data.toList < key.data.toList)) (fun at' => ts.length - (intOf at').toNat)
        case atStart => exact ⟨0, Nat.zero_le _, rfl, fun j hj => by omega⟩
        case round =>
          obtain ⟨m, hm, rfl, HLO⟩ := hrel
          by_cases hmt : m < ts.length
          · have hm0 : (0 : Int) ≤ (m : Int) := by omega
            have hmi : (m : Int) < (ts.length : Int) := by omega
            obtain ⟨g, off, rfl, c1⟩ : ∃ b off, va = some ⟨b, off, none⟩ ∧ wb.cell? ⟨b, off + m, none⟩ = some (.string (ts.getD m ByteArray.empty)) := by
              rcases HKA.out with rfl | ⟨b, off, e, h⟩
              · simp at hmt
              · exact ⟨b, off, e, h m hmt⟩
            obtain ⟨x, hx⟩ : ∃ x, x = ts.getD m ByteArray.empty := ⟨_, rfl⟩
            rw [← hx] at c1
            have HX := Lib.hid hx
            clear hx
            have hbl := bl_lt x key
            by_cases hless : x.data.toList < key.data.toList
            · rw [decide_eq_true hless] at hbl
              have HLO2 : Hid (∀ j, j < m + 1 → (ts.getD j ByteArray.empty).data.toList < key.data.toList) := fun j hj => by
                rcases Nat.lt_or_ge j m with h | h
                · exact HLO.out j h
                · have : j = m := by omega
                  rw [this, ← HX.out]; exact hless
              clear hless
              go_wp2
              go_round
              case rel => exact ⟨m + 1, hmt, by go_num, HLO2⟩
              case measure => simp [intOf]; omega
            · rw [decide_eq_false hless] at hbl
              have HAT : Hid (AtIs ts key m) := ⟨hm, HLO.out, fun _ => by rw [← HX.out]; exact hless⟩
              clear hless
              go_wp2_with fail
              go_meet
              exact ⟨m, rfl, HAT, rfl⟩
          · have hmi : (ts.length : Int) ≤ (m : Int) := by omega
            have HAT : Hid (AtIs ts key m) := ⟨hm, HLO.out, fun h => absurd h hmt⟩
            go_wp2_with fail
            go_meet
            exact ⟨m, rfl, HAT, rfl⟩
      case rest =>
      obtain ⟨m, rfl, HAT, rfl⟩ := hcut
      rename World => wb
      have hmle := HAT.out.le
      have HP2 := Lib.hid (HPUT.out m HAT.out)
      clear HPUT
      by_cases hq : m < ts.length ∧ ts.getD m ByteArray.empty = key
      · rw [if_pos hq] at HP2
        obtain ⟨hmt, hke⟩ := hq
        have hm0 : (0 : Int) ≤ (m : Int) := by omega
        have hmi : (m : Int) < (ts.length : Int) := by omega
        obtain ⟨g, off, rfl, c1⟩ : ∃ b off, va = some ⟨b, off, none⟩ ∧ wb.cell? ⟨b, off + m, none⟩ = some (.string (ts.getD m ByteArray.empty)) := by
          rcases HKA.out with rfl | ⟨b, off, e, h⟩
          · simp at hmt
          · exact ⟨b, off, e, h m hmt⟩
        rw [hke] at c1
        clear hke
        go_wp2
        go_roundw
        case rel => exact ⟨k + 1, _, hlt, by go_num, rfl, by rw [HNX.out, HP2.out]; exact HR.out, HB⟩
        case measure => simp [intOf]; omega
      · rw [if_neg hq] at HP2
        have hcase : (∃ (g off : Nat) (x : ByteArray), va = some ⟨g, off, none⟩ ∧ wb.cell? ⟨g, off + m, none⟩ = some (.string x) ∧ x ≠ key ∧ (m : Int) < (ts.length : Int)) ∨ (ts.length : Int) ≤ (m : Int) := by
          by_cases hmt : m < ts.length
          · rcases HKA.out with rfl | ⟨b, off, e, h⟩
            · simp at hmt
            · exact .inl ⟨b, off, _, e, h m hmt, fun e => hq ⟨hmt, e⟩, by omega⟩
          · exact .inr (by omega)
        have HBS : Hid (W0.heap.size ≤ wb.heap.size) := HB.out.size
        have HL100 : Hid (ts.length ≤ 100) := by have := HLN.out; rw [Hid]; omega
        have hm0 : (0 : Int) ≤ (m : Int) := by omega
        clear hq
        rcases hcase with ⟨g, off, x, rfl, c1, hne, hmi⟩ | hmi
        · have f1 := ba_neL hne
          have f2 := ba_neL' hne
          clear hne
          go_upto_region 20 with fail
          go_wp2_with (at_builtin; refine append_str rfl _ _ rfl W0.heap.size (.slice (some ⟨g, off, none⟩) ts.length vc) ts ⟨#[]⟩ rfl HR.out rfl HL100.out HBS.out ?_)
          intro v8 w8 r8 hg8 ho8
          have hb8 : Below W0.heap.size W0 w8 := (HB.out.alloc HBS.out (.cells #[.string ⟨#[]⟩] 9)).grown hg8 (by rw [World.size_alloc]; have := HBS.out; omega) (fun q hq => (World.ownsRow.lt HR.out q hq).1)
          obtain ⟨gg, cap, rfl, hgg, _⟩ := r8.cells (by simp)
          have hlen : (ts ++ [(⟨#[]⟩ : ByteArray)]).length = ts.length + 1 := by simp
          rw [hlen] at r8 ⊢
          have R8 : Hid (RowS w8 W0.heap.size (.slice (some ⟨gg, 0, none⟩) (ts.length + 1) cap) (ts.take ts.length ++ (⟨#[]⟩ : ByteArray) :: ts.drop ts.length)) := by rw [List.take_length, List.drop_length]; exact r8
          have HB8 := Lib.hid hb8
          have ht40 : (ts.length : Int) ≤ 40 := by have := HLN.out; omega
          clear r8 hg8 ho8 hb8 hlen hgg HKA f1 f2 c1
          go_wp2_with fail
          go_loopw [16] (fun sv wr => ∃ (j : Nat) (x : ByteArray), m ≤ j ∧ j ≤ ts.length ∧ sv = .int .i64 j ∧ Hid (RowS wr W0.heap.size (.slice (some ⟨gg, 0, none⟩) (ts.length + 1) cap) (ts.take j ++ x :: ts.drop j)) ∧ Hid (Below W0.heap.size W0 wr)) (fun sv _ => (intOf sv).toNat)
          case atStart => exact ⟨ts.length, ⟨#[]⟩, hmle, Nat.le_refl _, by first | rfl | (congr 1; omega) | (simp), R8, HB8⟩
          case round =>
            obtain ⟨j, x, hmj, hjl, rfl, HRJ, HBJ⟩ := hrel
            rename World => wj
            have hgg := rowS_lt HRJ.out
            by_cases hj : m < j
            · obtain ⟨j', rfl⟩ : ∃ j', j = j' + 1 := ⟨j - 1, by omega⟩
              have hjt : j' < ts.length := by omega
              obtain ⟨c1, fz⟩ := rowS_at HRJ.out (by rw [move_len hjl]) j' (by omega)
              rw [move_get hjt] at c1
              obtain ⟨d1, _⟩ := rowS_at HRJ.out (by rw [move_len hjl]) (j' + 1) (by omega)
              have hst := rowS_put HRJ.out (by rw [move_len hjl]) (j' + 1) (ts.getD j' ByteArray.empty)
              rw [move_one hjt] at hst
              obtain ⟨r9, hg9⟩ := hst
              obtain ⟨xx, hxx⟩ : ∃ y, y = ts.getD j' ByteArray.empty := ⟨_, rfl⟩
              rw [← hxx] at c1 r9 hg9
              generalize (ts.take (j' + 1) ++ x :: ts.drop (j' + 1)).getD (j' + 1) ByteArray.empty = dd at d1
              have R9 := Lib.hid r9
              have B9 := Lib.hid (HBJ.out.grown hg9 HBJ.out.size (fun q hq => by injection hq with hq; omega))
              have hji : (m : Int) < ((j' : Int) + 1) := by omega
              have hj40 : (j' : Int) + 1 ≤ 41 := by omega
              have hjt2 : (j' : Int) + 1 < (ts.length : Int) + 1 := by omega
              have hjt3 : (j' : Int) < (ts.length : Int) + 1 := by omega
              clear r9 hg9 hxx HRJ HBJ hgg
              go_wp2
              go_roundw
              case rel => exact ⟨j', xx, by omega, by omega, by go_num, R9, B9⟩
              case measure => first | (simp [intOf]; done) | (simp [intOf]; omega)
            · obtain rfl : j = m := by omega
              obtain ⟨c1, fz⟩ := rowS_at HRJ.out (by rw [move_len hjl]) j (by omega)
              have hst := rowS_put HRJ.out (by rw [move_len hjl]) j key
              rw [move_last hjl] at hst
              obtain ⟨r9, hg9⟩ := hst
              generalize (ts.take j ++ x :: ts.drop j).getD j ByteArray.empty = dd at c1
              have R9 := Lib.hid r9
              have B9 := Lib.hid (HBJ.out.grown hg9 HBJ.out.size (fun q hq => by injection hq with hq; omega))
              have hjt2 : (j : Int) < (ts.length : Int) + 1 := by omega
              clear r9 hg9 HRJ HBJ hgg
              go_wp2
              go_roundw
              case rel => exact ⟨k + 1, _, hlt, by go_num, rfl, by rw [HNX.out, HP2.out]; exact R9.out, B9⟩
              case measure => simp [intOf]; omega
        · go_upto_region 20 with fail
          go_wp2_with (at_builtin; refine append_str rfl _ _ rfl W0.heap.size (.slice va ts.length vc) ts ⟨#[]⟩ rfl HR.out rfl HL100.out HBS.out ?_)
          intro v8 w8 r8 hg8 ho8
          have hb8 : Below W0.heap.size W0 w8 := (HB.out.alloc HBS.out (.cells #[.string ⟨#[]⟩] 9)).grown hg8 (by rw [World.size_alloc]; have := HBS.out; omega) (fun q hq => (World.ownsRow.lt HR.out q hq).1)
          obtain ⟨gg, cap, rfl, hgg, _⟩ := r8.cells (by simp)
          have hlen : (ts ++ [(⟨#[]⟩ : ByteArray)]).length = ts.length + 1 := by simp
          rw [hlen] at r8 ⊢
          have R8 : Hid (RowS w8 W0.heap.size (.slice (some ⟨gg, 0, none⟩) (ts.length + 1) cap) (ts.take ts.length ++ (⟨#[]⟩ : ByteArray) :: ts.drop ts.length)) := by rw [List.take_length, List.drop_length]; exact r8
          have HB8 := Lib.hid hb8
          have ht40 : (ts.length : Int) ≤ 40 := by have := HLN.out; omega
          clear r8 hg8 ho8 hb8 hlen hgg HKA 
          go_wp2_with fail
          go_loopw [16] (fun sv wr => ∃ (j : Nat) (x : ByteArray), m ≤ j ∧ j ≤ ts.length ∧ sv = .int .i64 j ∧ Hid (RowS wr W0.heap.size (.slice (some ⟨gg, 0, none⟩) (ts.length + 1) cap) (ts.take j ++ x :: ts.drop j)) ∧ Hid (Below W0.heap.size W0 wr)) (fun sv _ => (intOf sv).toNat)
          case atStart => exact ⟨ts.length, ⟨#[]⟩, hmle, Nat.le_refl _, by first | rfl | (congr 1; omega) | (simp), R8, HB8⟩
          case round =>
            obtain ⟨j, x, hmj, hjl, rfl, HRJ, HBJ⟩ := hrel
            rename World => wj
            have hgg := rowS_lt HRJ.out
            by_cases hj : m < j
            · exfalso; omega
            · obtain rfl : j = m := by omega
              obtain ⟨c1, fz⟩ := rowS_at HRJ.out (by rw [move_len hjl]) j (by omega)
              have hst := rowS_put HRJ.out (by rw [move_len hjl]) j key
              rw [move_last hjl] at hst
              obtain ⟨r9, hg9⟩ := hst
              generalize (ts.take j ++ x :: ts.drop j).getD j ByteArray.empty = dd at c1
              have R9 := Lib.hid r9
              have B9 := Lib.hid (HBJ.out.grown hg9 HBJ.out.size (fun q hq => by injection hq with hq; omega))
              have hjt2 : (j : Int) < (ts.length : Int) + 1 := by omega
              clear r9 hg9 HRJ HBJ hgg
              go_wp2
              go_roundw
              case rel => exact ⟨k + 1, _, hlt, by go_num, rfl, by rw [HNX.out, HP2.out]; exact R9.out, B9⟩
              case measure => simp [intOf]; omega
    · obtain rfl : k = KS.length := by omega
      rw [List.take_length] at HR
      obtain ⟨va, vc, rfl, hka, _⟩ := rowS_shape HR.out
      have hki : (l1.length : Int) + (l2.length : Int) ≤ (KS.length : Int) := by have := HKl.out; omega
      have hlk : (ofB (inAll (lb KS))).length ≤ 1000 := by
        rw [ofB_len]
        have h1 := inAll_len (lb KS)
        rw [lb_len] at h1
        have := HKl.out
        omega
      have LB := L0.out.below HB.out
      have HKA := Lib.hid hka
      have BWb := Lib.hid (bw_call HB.out BW.out)
      have p0 := LB.p0
      have p1 := LB.p1
      have HLB := Lib.hid LB
      have K1 := Lib.hid (KLA.out wb LB.cl1 LB.tab)
      have HLK := Lib.hid hlk
      clear LB hka hlk HR HB L0 BW
      go_wp2_with fail
      refine K1.out.mono ?_
      rintro e w7 ⟨rfl, hb7⟩
      have LB := HLB.out.below hb7
      have HKA7 : Hid (KeysAt w7 va (ofB (inAll (lb KS)))) := keysAt_below HKA.out hb7
      have BW7 := Lib.hid (bw_call hb7 BWb.out)
      have hps : pgSame n3 g3 l3 n3 g3 l3 = true := by simp [pgSame]
      have K2 := refSame_any n3 g3 a3 l3 c3 n3 g3 a4 l3 c4 w7 (by omega) LB.cl3 LB.cl4
      rw [hps] at K2
      have K2 := Lib.hid K2
      have HLB := Lib.hid LB
      have x0 := LB.x0
      have x1 := LB.x1
      have x2 := LB.x2
      have y0 := LB.y0
      have y1 := LB.y1
      have y2 := LB.y2
      clear LB hb7 HKA BWb hps K1 KLA p0 p1 p2 q2
      go_wp2_with fail
      refine K2.out.mono ?_
      rintro e w8 ⟨rfl, hb8⟩
      have LB := HLB.out.below hb8
      have HKA8 : Hid (KeysAt w8 va (ofB (inAll (lb KS)))) := keysAt_below HKA7.out hb8
      have BW8 := Lib.hid (bw_call hb8 BW7.out)
      have p0 := LB.p0
      have p1 := LB.p1
      have p2 := LB.p2
      have q0 := LB.q0
      have q1 := LB.q1
      have q2 := LB.q2
      have HLB := Lib.hid LB
      clear LB hb8 HKA7 BW7 K2 x0 x1 x2 y0 y1 y2
      go_wp2_with fail
      have hba : Below w8.heap.size w8 (w8.alloc (.cells #[.int .i64 n1, .int .i64 g1, .slice a1 l1.length c1, .int .i64 n2, .int .i64 g2, .slice a2 l2.length c2] 24)) := (Below.refl _ _).alloc (Nat.le_refl _) _
      have LBa := HLB.out.below hba
      have K3 := keys_any w8.heap.size 2 n1 g1 a1 l1 c1 n2 g2 a2 l2 c2 (w8.alloc (.cells #[.int .i64 n1, .int .i64 g1, .slice a1 l1.length c1, .int .i64 n2, .int .i64 g2, .slice a2 l2.length c2] 24)) hl1 hl2 ⟨new_cell rfl rfl, new_cell rfl rfl, new_cell rfl rfl, new_cell rfl rfl, new_cell rfl rfl, new_cell rfl rfl, LBa.cl1, LBa.cl2⟩
      rw [← HKS.out] at K3
      have K3 := Lib.hid K3
      have HKAa : Hid (KeysAt (w8.alloc (.cells #[.int .i64 n1, .int .i64 g1, .slice a1 l1.length c1, .int .i64 n2, .int .i64 g2, .slice a2 l2.length c2] 24)) va (ofB (inAll (lb KS)))) := keysAt_below HKA8.out hba
      have BWa := Lib.hid (bw_alloc (o := .cells #[.int .i64 n1, .int .i64 g1, .slice a1 l1.length c1, .int .i64 n2, .int .i64 g2, .slice a2 l2.length c2] 24) BW8.out)
      have HTA := Lib.hid LBa.tab
      clear hba LBa HLB HKA8 BW8 p0 p1 p2 q0 q1 q2
      refine K3.out.mono ?_
      rintro e w9 ⟨a', c', rfl, hk9, hb9⟩
      have K4 := Lib.hid (texts_same a' (ofB (inAll (lb KS))) c' va vc w9 HLK.out hk9 (keysAt_below HKAa.out hb9))
      have BW9 := Lib.hid (bw_call hb9 BWa.out)
      have HT9 := Lib.hid (HTA.out.below hb9)
      clear hk9 hb9 HKAa BWa K3 HTA
      go_wp2_with fail
      refine K4.out.mono ?_
      rintro e w10 ⟨rfl, hb10⟩
      have BW10 := Lib.hid (bw_call hb10 BW9.out)
      have K5 := Lib.hid (KAW.out w10 (HT9.out.below hb10))
      clear hb10 BW9 HT9 K4 KAW
      go_wp2_with fail
      refine K5.out.mono ?_
      rintro e w11 ⟨rfl, hb11⟩
      have BW11 := bw_call hb11 BW10.out
      clear hb11 K5 BW10
      go_wp2
      go_ret
      exact ⟨rfl, BW11⟩
set_option maxRecDepth 100000 in
set_option maxHeartbeats 4000000 in
theorem pageBytes_early (n1 g1 : Int) (a1 : Option Addr) (l1 : List (ByteArray × ByteArray)) (c1 : Nat) (n2 g2 : Int) (a2 : Option Addr) (l2 : List (ByteArray × ByteArray)) (c2 : Nat) (s : ByteArray) (w : World) (hn1 : l1.length ≤ maxLen) (hn2 : l2.length ≤ maxLen) (ha : ClsAt w a1 l1) (hb : ClsAt w a2 l2) (ht : Tab w) (hbad : clGreat l1 = true ∨ (clGreat l1 = false ∧ clGreat l2 = true) ∨ (clGreat l1 = false ∧ clGreat l2 = false ∧ 1000 < (s.size : Int))) :
    Calls Tryd.prog 5 #[.agg #[.int .i64 n1, .int .i64 g1, .slice a1 l1.length c1], .agg #[.int .i64 n2, .int .i64 g2, .slice a2 l2.length c2], .string s] w fun e w' => e = .returned (.bool true) ∧ Below w.heap.size w w' := by
  have E0 := Lib.hid (PgE.mk (W := w) ha hb ht)
  have KGA := Lib.hid (fun W (h : PgE W a1 l1 a2 l2) => great_any n1 g1 a1 l1 c1 W hn1 h.ca)
  have KGB := Lib.hid (fun W (h : PgE W a1 l1 a2 l2) => great_any n2 g2 a2 l2 c2 W hn2 h.cb)
  have KAW := Lib.hid (fun W (h : Tab W) => awake11_any W h)
  clear ha hb ht
  rcases hbad with hq | ⟨hq, hq2⟩ | ⟨hq, hq2, hsz⟩
  · rw [hq] at KGA
    clear hq KGB
    go_enter Tryd.func5, Tryd.ntmps5
    go_wp2_with fail
    refine (KGA.out _ E0.out.alloc.alloc).mono ?_
    rintro e w1 ⟨rfl, hb1⟩
    have E1 := Lib.hid (PgE.below hb1 E0.out.alloc.alloc)
    have B1 := Lib.hid (bw_call hb1 (bw_alloc (bw_alloc (Below.refl _ w))))
    clear hb1 KGA
    go_wp2_with fail
    refine (KAW.out _ E1.out.tab).mono ?_
    rintro e w2 ⟨rfl, hb2⟩
    have B2 := bw_call hb2 B1.out
    clear hb2
    go_wp2
    go_ret
    exact ⟨rfl, B2⟩
  all_goals
    rw [hq] at KGA
    rw [hq2] at KGB
    clear hq hq2
    go_enter Tryd.func5, Tryd.ntmps5
    go_wp2_with fail
    refine (KGA.out _ E0.out.alloc.alloc).mono ?_
    rintro e w1 ⟨rfl, hb1⟩
    have E1 := Lib.hid (PgE.below hb1 E0.out.alloc.alloc)
    have B1 := Lib.hid (bw_call hb1 (bw_alloc (bw_alloc (Below.refl _ w))))
    have b0 : w1.cell? ⟨w.heap.size + 1, 0, none⟩ = some (.int .i64 n2) := keep_cell hb1 (new_cell (by rw [World.size_alloc]) rfl)
    have b1 : w1.cell? ⟨w.heap.size + 1, 1, none⟩ = some (.int .i64 g2) := keep_cell hb1 (new_cell (by rw [World.size_alloc]) rfl)
    have b2 : w1.cell? ⟨w.heap.size + 1, 2, none⟩ = some (.slice a2 l2.length c2) := keep_cell hb1 (new_cell (by rw [World.size_alloc]) rfl)
    clear hb1 KGA
    go_wp2_with fail
    refine (KGB.out _ E1.out).mono ?_
    rintro e w2 ⟨rfl, hb2⟩
    have E2 := Lib.hid (PgE.below hb2 E1.out)
    have B2 := Lib.hid (bw_call hb2 B1.out)
    clear hb2 KGB b0 b1 b2
    go_wp2_with fail
    refine (KAW.out _ E2.out.tab).mono ?_
    rintro e w3 ⟨rfl, hb3⟩
    have B3 := bw_call hb3 B2.out
    clear hb3
    go_wp2
    go_ret
    exact ⟨rfl, B3⟩
theorem pageBytes_walk (n1 g1 : Int) (a1 : Option Addr) (l1 : List (ByteArray × ByteArray)) (c1 : Nat) (n2 g2 : Int) (a2 : Option Addr) (l2 : List (ByteArray × ByteArray)) (c2 : Nat) (s : ByteArray) (w : World) (hn1 : l1.length ≤ maxLen) (hn2 : l2.length ≤ maxLen) (ha : ClsAt w a1 l1) (hb : ClsAt w a2 l2) (ht : Tab w) :
    Calls Tryd.prog 5 #[.agg #[.int .i64 n1, .int .i64 g1, .slice a1 l1.length c1], .agg #[.int .i64 n2, .int .i64 g2, .slice a2 l2.length c2], .string s] w fun e w' => e = .returned (.bool true) ∧ Below w.heap.size w w' := by
  cases h1 : clGreat l1 with
  | true => exact pageBytes_early n1 g1 a1 l1 c1 n2 g2 a2 l2 c2 s w hn1 hn2 ha hb ht (.inl h1)
  | false =>
    cases h2 : clGreat l2 with
    | true => exact pageBytes_early n1 g1 a1 l1 c1 n2 g2 a2 l2 c2 s w hn1 hn2 ha hb ht (.inr (.inl ⟨h1, h2⟩))
    | false =>
      by_cases h3 : s.size ≤ 1000
      · exact pageBytes_main n1 g1 a1 l1 c1 n2 g2 a2 l2 c2 s w hn1 hn2 ha hb ht h1 h2 h3
      · exact pageBytes_early n1 g1 a1 l1 c1 n2 g2 a2 l2 c2 s w hn1 hn2 ha hb ht (.inr (.inr ⟨h1, h2, by omega⟩))
end Go.Proofs.YtgkpbchpjgkblaaDoor
