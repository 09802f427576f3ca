/-
  THE CONTRACT OF page.Laid.
-/
import Derived.Test.YtkemhkmabbladaaGreatDoorTpLaid
namespace Go.Proofs.YtkemhkmabbladaaGreatDoor
open Go.RowKit
theorem put_size (K : Nat) (x : Int) (h1 : 1 ≤ K) (h8 : K ≤ 8) (hx : fitsN K x = true) : putL (K : Int) [x] = be K x.toNat := by
  have := putL_one K x h1 h8
  rw [this, hx]; rfl
theorem hd_join (no gsn : Int) (n : Nat) : bstr (be 1 no.toNat) ++ bstr (be 8 gsn.toNat) ++ bstr (be 1 n) = bstr (hdL no gsn n) := by
  rw [bstr_append, bstr_append]; rfl
theorem two_str (x y : ByteArray) (W : World) (T : TypeId) : StrsAt (W.alloc (.cells #[.string x, .string y] T)) (some ⟨W.heap.size, 0, none⟩) [x, y] := .inr ⟨W.heap.size, 0, rfl, fun i hi => by
    match i, hi with
    | 0, _ => exact new_cell rfl rfl
    | 1, _ => exact new_cell rfl rfl⟩
theorem rep0 (n : Nat) : (⟨(Lib.repeatL [(0 : UInt8)] n).toArray⟩ : ByteArray) = bstr (List.replicate n 0) := by
  have : ∀ n, Lib.repeatL [(0 : UInt8)] n = List.replicate n 0 := by
    intro n
    induction n with
    | zero => rfl
    | succ n ih => rw [List.replicate_succ, ← ih]; rfl
  rw [this]; rfl
theorem joined_two (x y : List UInt8) : joined [bstr x, bstr y] = x ++ y := by simp [joined, bstr]
theorem seal_page (x : List UInt8) (W : World) (hx : x.length ≤ 218) (ht : Tab W) :
    Calls Tryz.prog 102 #[.slice (some ⟨W.heap.size, 0, none⟩) 2 2] (W.alloc (.cells #[.string (bstr x), .string (bstr (List.replicate (252 - x.length) 0))] 9)) fun e w' =>
      e = .returned (.string (sealStr (x ++ List.replicate (252 - x.length) 0))) ∧ Below (W.alloc (.cells #[.string (bstr x), .string (bstr (List.replicate (252 - x.length) 0))] 9)).heap.size (W.alloc (.cells #[.string (bstr x), .string (bstr (List.replicate (252 - x.length) 0))] 9)) w' := by
  have hy : (List.replicate (252 - x.length) (0 : UInt8)).length ≤ 252 := by rw [List.length_replicate]; omega
  generalize List.replicate (252 - x.length) (0 : UInt8) = y at *
  have h := seal_any (some ⟨W.heap.size, 0, none⟩) [bstr x, bstr y] 2 (W.alloc (.cells #[.string (bstr x), .string (bstr y)] 9)) (by
      intro s hs
      unfold maxLen
      rw [List.mem_cons, List.mem_singleton] at hs
      rcases hs with rfl | rfl <;> (rw [bstr_size]; omega)) (two_str _ _ _ _) (by simp) (by simp) (by rw [joined_two, List.length_append]; omega) (ht.below ((Below.refl _ _).alloc (Nat.le_refl _) _))
  rw [joined_two] at h
  exact h
set_option maxRecDepth 100000 in
set_option maxHeartbeats 4000000 in
theorem pgLaid_bad (no gsn : Int) (a : Option Addr) (l : List (ByteArray × ByteArray)) (c : Nat) (w : World) (hn : l.length ≤ maxLen) (ha : ClsAt w a l) (h : pgOk no gsn l = false) :
    Calls Tryz.prog 72 #[.agg #[.int .i64 no, .int .i64 gsn, .slice a l.length c]] w fun e w' => e = .returned (.string ⟨#[]⟩) ∧ Below w.heap.size w w' := by
  have hb0 : Below w.heap.size w (w.alloc (.cells #[.int .i64 no, .int .i64 gsn, .slice a l.length c] 36)) := (Below.refl _ _).alloc (Nat.le_refl _) _
  have KR := Lib.hid (right_any no gsn a l c _ hn (ha.below hb0))
  rw [h] at KR
  clear h ha
  go_enter Tryz.func72, Tryz.ntmps72
  go_wp2_with fail
  refine KR.out.mono ?_
  rintro e w5 ⟨rfl, hb5⟩
  go_wp2
  go_ret
  exact ⟨rfl, hb0.trans (hb5.mono hb0.size)⟩
set_option maxRecDepth 100000 in
set_option maxHeartbeats 8000000 in
theorem pgLaid_any (no gsn : Int) (a : Option Addr) (l : List (ByteArray × ByteArray)) (c : Nat) (w : World) (ha : ClsAt w a l) (ht : Tab w) (h : pgOk no gsn l = true) :
    Calls Tryz.prog 72 #[.agg #[.int .i64 no, .int .i64 gsn, .slice a l.length c]] w fun e w' => e = .returned (.string (pgBytes no gsn l)) ∧ Below w.heap.size w w' := by
  obtain ⟨h1, h2, h3, h4, h5, h6⟩ := pgOk_parts h
  have hb0 : Below w.heap.size w (w.alloc (.cells #[.int .i64 no, .int .i64 gsn, .slice a l.length c] 36)) := (Below.refl _ _).alloc (Nat.le_refl _) _
  have KR := Lib.hid (right_any no gsn a l c _ (by unfold maxLen; omega) (ha.below hb0))
  rw [h] at KR
  have HA := Lib.hid (ha.below hb0)
  have HT := Lib.hid (ht.below hb0)
  have HSM := Lib.hid (fun k (hk : k < l.length) => cell_small h6 k hk)
  have HLEN := Lib.hid (fun k (hk : k ≤ l.length) => clL_len l (fun k hk => cell_small h6 k hk) k hk)
  clear h ha ht h6
  have P1 := Lib.hid (fun W g hc => put_one 1 no (by omega) (WalkArith.wf_i64 (by omega)) W g hc)
  have P8 := Lib.hid (fun W g hc => put_one 8 gsn (by omega) (WalkArith.wf_i64 (by omega)) W g hc)
  have PC := Lib.hid (fun W g hc => put_one 1 (l.length : Int) (by omega) (WalkArith.wf_i64 (by omega)) W g hc)
  rw [show (1 : Int) = ((1 : Nat) : Int) from rfl, put_size 1 no (by omega) (by omega) (by unfold fitsN; simp; omega)] at P1
  rw [show (8 : Int) = ((8 : Nat) : Int) from rfl, put_size 8 gsn (by omega) (by omega) (by unfold fitsN; simp; omega)] at P8
  rw [show (1 : Int) = ((1 : Nat) : Int) from rfl, put_size 1 (l.length : Int) (by omega) (by omega) (by unfold fitsN; simp; omega), Int.toNat_natCast] at PC
  have HJ := Lib.hid (hd_join no gsn l.length)
  have z1 : (bstr (be 1 no.toNat)).size = 1 := by rw [bstr_size, be_len]
  have z8 : (bstr (be 8 gsn.toNat)).size = 8 := by rw [bstr_size, be_len]
  have zc : (bstr (be 1 l.length)).size = 1 := by rw [bstr_size, be_len]
  generalize bstr (be 1 no.toNat) = n1 at *
  generalize bstr (be 8 gsn.toNat) = n8 at *
  generalize bstr (be 1 l.length) = nc at *
  have a1 : ¬ 9223372036854775807 < n1.size + n8.size := by omega
  have a2 : ¬ 9223372036854775807 < n1.size + n8.size + nc.size := by omega
  go_enter Tryz.func72, Tryz.ntmps72
  go_wp2_with fail
  refine KR.out.mono ?_
  rintro e w1 ⟨rfl, hb1⟩
  have c0 : w1.cell? ⟨w.heap.size, 0, none⟩ = some (.int .i64 no) := keep_cell hb1 (new_cell rfl rfl)
  have c1 : w1.cell? ⟨w.heap.size, 1, none⟩ = some (.int .i64 gsn) := keep_cell hb1 (new_cell rfl rfl)
  have c2 : w1.cell? ⟨w.heap.size, 2, none⟩ = some (.slice a l.length c) := keep_cell hb1 (new_cell rfl rfl)
  have hbw : Below w.heap.size w w1 := hb0.trans (hb1.mono hb0.size)
  have HA1 := Lib.hid (HA.out.below hb1)
  have HT1 := Lib.hid (HT.out.below hb1)
  clear hb1 KR hb0 HA HT
  go_wp2_with fail
  go_cut [3] (fun s3 wx => s3 = .string (bstr (hdL no gsn l.length)) ∧ wx.cell? ⟨w.heap.size, 2, none⟩ = some (.slice a l.length c) ∧ Below w1.heap.size w1 wx)
  case first =>
    go_region_held3 (fun w' => w'.cell? ⟨w.heap.size, 0, none⟩ = some (.int .i64 no) ∧ w'.cell? ⟨w.heap.size, 1, none⟩ = some (.int .i64 gsn) ∧ w'.cell? ⟨w.heap.size, 2, none⟩ = some (.slice a l.length c))
      ((refine ⟨?_, ?_, ?_⟩ <;> (repeat (first | with_reducible assumption | with_reducible refine keep_alloc ?_ | with_reducible refine keep_drew ?_ | with_reducible refine keep_cell (by assumption) ?_))))
      (first
        | (go_at_call_of 100 (Value.int .i64 8); refine (P8.out _ _ ?_).mono ?_; (repeat (first | (with_reducible refine new_cell ?_ ?_ <;> first | rfl | (simp; done)) | with_reducible refine keep_alloc ?_ | with_reducible refine keep_drew ?_ | with_reducible refine keep_cell (by assumption) ?_)); rintro x w98 ⟨rfl, hb98⟩)
        | (go_at_call 100; refine (P1.out _ _ ?_).mono ?_; (focus ((repeat (first | (with_reducible refine new_cell ?_ ?_ <;> first | rfl | (simp; done)) | with_reducible refine keep_alloc ?_ | with_reducible refine keep_drew ?_ | with_reducible refine keep_cell (by assumption) ?_)); done)); rintro x w95 ⟨rfl, hb95⟩)
        | (go_at_call 100; refine (PC.out _ _ ?_).mono ?_; (focus ((repeat (first | (with_reducible refine new_cell ?_ ?_ <;> first | rfl | (simp; done)) | with_reducible refine keep_alloc ?_ | with_reducible refine keep_drew ?_ | with_reducible refine keep_cell (by assumption) ?_)); done)); rintro x w96 ⟨rfl, hb96⟩))
    all_goals go_wp2_with fail
    all_goals go_meet
    all_goals refine ⟨by rw [← HJ.out], ?_, ?_⟩
    all_goals first | ((repeat (first | with_reducible assumption | with_reducible refine keep_alloc ?_ | with_reducible refine keep_drew ?_ | with_reducible refine keep_cell (by assumption) ?_)); done) | ((repeat (first | with_reducible assumption | with_reducible exact Below.refl _ _ | with_reducible refine bw_alloc ?_ | with_reducible refine bw_drew ?_ | with_reducible refine bw_call (by assumption) ?_)); done)
  case rest =>
  obtain ⟨rfl, d2, hbx⟩ := hcut
  have HA2 := Lib.hid (HA1.out.below hbx)
  have HT2 := Lib.hid (HT1.out.below hbx)
  have hbw2 := hbw.trans (hbx.mono hbw.size)
  clear P1 P8 PC a1 a2 c0 c1 c2 hbw hbx HA1 HT1 z1 z8 zc HJ
  have LT := Lib.hid laidText_any
  have zh := hdL_len no gsn l.length
  have HB : Hid (bodyL no gsn l = hdL no gsn l.length ++ clL l) := rfl
  have HP : Hid (pgBytes no gsn l = sealStr (bodyL no gsn l ++ List.replicate (252 - (bodyL no gsn l).length) 0)) := rfl
  generalize hdL no gsn l.length = hd at *
  have hb2 := Lib.hid hbw2
  clear hbw2
  rename World => wx
  go_wp2
  go_loopw [3, 27] (fun s i wr => ∃ k : Nat, k ≤ l.length ∧ i = .int .i64 k ∧ s = .string (bstr (hd ++ clL (l.take k))) ∧ Hid (Below wx.heap.size wx wr)) (fun _ i _ => l.length - (intOf i).toNat)
  case atStart => exact ⟨0, Nat.zero_le _, rfl, by rw [List.take_zero]; show _ = Value.string (bstr (hd ++ [])); rw [List.append_nil], Below.refl _ _⟩
  case round =>
    obtain ⟨k, hk, rfl, rfl, hb⟩ := hrel
    rename World => wa
    have hbw := Lib.hid (hb2.out.trans (hb.out.mono hb2.out.size))
    have HL := HLEN.out k hk
    by_cases hlt : k < l.length
    · have hk0 : (0 : Int) ≤ (k : Int) := by omega
      have hk1 : (k : Int) < (l.length : Int) := by omega
      obtain ⟨b, off, rfl, e1, e2⟩ := (HA2.out.below hb.out).at hlt
      obtain ⟨s8, s16⟩ := HSM.out k hlt
      have HS := Lib.hid (clL_succ l k hlt)
      have HL2 := HLEN.out (k + 1) hlt
      rw [HS.out] at HL2
      rw [List.length_append, List.length_append] at HL2
      obtain ⟨s1, hs1⟩ : ∃ s, s = (l.getD k noCl).1 := ⟨_, rfl⟩
      obtain ⟨s2, hs2⟩ : ∃ s, s = (l.getD k noCl).2 := ⟨_, rfl⟩
      rw [← hs1] at e1 s8 HS HL2
      rw [← hs2] at e2 s16 HS HL2
      clear hs1 hs2
      have L1 := Lib.hid (LT.out s1 (by omega))
      have L2 := Lib.hid (LT.out s2 (by omega))
      have y1 := bstr_size (ltL s1)
      have y2 := bstr_size (ltL s2)
      have y0 := bstr_size (hd ++ clL (l.take k))
      rw [List.length_append] at y0
      have HZ : Hid (bstr (hd ++ clL (l.take k)) ++ (bstr (ltL s1) ++ bstr (ltL s2)) = bstr (hd ++ clL (l.take (k + 1)))) := by
        rw [Hid, HS.out, bstr_append, bstr_append, List.append_assoc]
      have ql1 := ltL_len s1
      have ql2 := ltL_len s2
      generalize bstr (hd ++ clL (l.take k)) = sk at *
      generalize bstr (ltL s1) = t1 at *
      generalize bstr (ltL s2) = t2 at *
      have a1 : ¬ 9223372036854775807 < t1.size + t2.size := by omega
      have a2 : ¬ 9223372036854775807 < sk.size + (t1.size + t2.size) := by omega
      clear y0 y1 y2 ql1 ql2
      have hba : Below wa.heap.size wa (wa.alloc (.cells #[.string s1, .string s2] 89)) := (Below.refl _ _).alloc (Nat.le_refl _) _
      have x0 := new_cell (W := wa) (cs := #[.string s1, .string s2]) (T := 89) (g := wa.heap.size) (i := 0) (v := .string s1) rfl rfl
      have x1 := new_cell (W := wa) (cs := #[.string s1, .string s2]) (T := 89) (g := wa.heap.size) (i := 1) (v := .string s2) rfl rfl
      clear HS HL HL2 HSM HLEN
      go_wp2_with fail
      generalize wa.alloc (.cells #[.string s1, .string s2] 89) = wb at *
      go_region_held3 (fun w' => w'.cell? ⟨wa.heap.size, 0, none⟩ = some (.string s1) ∧ w'.cell? ⟨wa.heap.size, 1, none⟩ = some (.string s2))
        ((refine ⟨?_, ?_⟩ <;> (repeat (first | with_reducible assumption | with_reducible refine keep_alloc ?_ | with_reducible refine keep_drew ?_ | with_reducible refine keep_cell (by assumption) ?_))))
        (first
          | (go_at_call_of 101 (Value.string s1); refine (L1.out _).mono ?_; rintro x w95 ⟨rfl, hb95⟩)
          | (go_at_call_of 101 (Value.string s2); refine (L2.out _).mono ?_; rintro x w96 ⟨rfl, hb96⟩))
      all_goals go_wp2_with fail
      all_goals go_roundw
      case rel => exact ⟨k + 1, by omega, by go_num, by rw [← HZ.out], hb.out.trans ((hba.trans (Below.mono (by
        (repeat (first | with_reducible assumption | with_reducible exact Below.refl _ _ | with_reducible refine bw_alloc ?_ | with_reducible refine bw_drew ?_ | with_reducible refine bw_call (by assumption) ?_))) hba.size)).mono hb.out.size)⟩
      case measure => simp [intOf]; omega
    · have hk1 : (l.length : Int) ≤ (k : Int) := by omega
      have hkl : k = l.length := by omega
      rw [hkl, List.take_length] at HL ⊢
      rw [← HB.out]
      have y0 := bstr_size (bodyL no gsn l)
      have y3 : (bodyL no gsn l).length ≤ 218 := by rw [HB.out, List.length_append]; omega
      have hsub : IntKind.i64.wrap (252 - ((bodyL no gsn l).length : Int)) = ((252 - (bodyL no gsn l).length : Nat) : Int) := by rw [IntWalk.i64_in _ (by omega)]; omega
      have KRp := Lib.hid (fun W => Tryz.strings_Repeat ⟨#[0]⟩ (252 - (bodyL no gsn l).length) W (by omega) (by show 1 * _ ≤ _; omega))
      rw [show (⟨#[(0 : UInt8)]⟩ : ByteArray).data.toList = [0] from rfl, rep0] at KRp
      have KS := Lib.hid (fun (W : World) (ht : Tab W) => seal_page (bodyL no gsn l) W y3 ht)
      rw [show sealStr (bodyL no gsn l ++ List.replicate (252 - (bodyL no gsn l).length) 0) = pgBytes no gsn l from rfl] at KS
      obtain ⟨R, hR⟩ : ∃ R, R = pgBytes no gsn l := ⟨_, rfl⟩
      rw [← hR] at KS
      have HR := Lib.hid hR
      clear hR
      generalize bodyL no gsn l = bl at *
      generalize bstr (List.replicate (252 - bl.length) 0) = sr at *
      generalize 252 - bl.length = m at *
      rw [← y0] at hsub
      have HT3 := Lib.hid (HT2.out.below hb.out)
      clear HP HB HA2 HT2 HSM HLEN HL LT hb hb2 d2
      generalize bstr bl = sb at *
      clear y3 y0
      go_wp2_with fail
      refine (KRp.out _).mono ?_
      rintro e w6 ⟨rfl, hb6⟩
      have HT4 := Lib.hid (HT3.out.below hb6)
      go_wp2_with fail
      refine (KS.out _ HT4.out).mono ?_
      rintro e w7 ⟨rfl, hb7⟩
      go_wp2
      go_ret
      exact ⟨by rw [← HR.out]; rfl, hbw.out.trans ((hb6.trans ((bw_call hb7 (bw_alloc (Below.refl _ _))).mono hb6.size)).mono hbw.out.size)⟩
end Go.Proofs.YtkemhkmabbladaaGreatDoor
