/-
  THE WALK OF quadrigalaw02.SumParts: it returns true, and writes nothing that was there.
-/
import Derived.Test.YtcdnohgnmfaclaaDoorSumGood
import Derived.Deep.DeepCutAuto
import Derived.WalkSpells
namespace Go.Proofs.YtcdnohgnmfaclaaDoor
open Go.RowKit Crc

/-- A slice of ints that reads as these numbers. -/
def IntsAt (w : World) (a : Option Addr) (l : List Int) : Prop :=
  l = [] ∨ ∃ b off, a = some ⟨b, off, none⟩ ∧ ∀ i, i < l.length → w.cell? ⟨b, off + i, none⟩ = some (.int .i64 (l.getD i 0))

theorem infoS : (Tryd.prog.info? 9).map (fun i => (i.zero, i.size, i.bytes)) = some (some (.string ⟨#[]⟩), 1, 16) := by kernel_rfl

/-- A cut's place: what is taken of a number, at most what is left. -/
theorem cut_place (c : Int) (n at_ : Nat) (h : at_ ≤ n) : ∃ d : Nat, (IntKind.u64.wrap c).tmod ((n : Int) - (at_ : Int) + 1) = (d : Int) ∧ at_ + d ≤ n := by
  have h0 : 0 ≤ IntKind.u64.wrap c := by rw [IntKind.wrap_u64]; omega
  rw [Int.tmod_eq_emod_of_nonneg h0]
  have h1 : (0 : Int) < (n : Int) - at_ + 1 := by omega
  have h2 := Int.emod_nonneg (IntKind.u64.wrap c) (b := (n : Int) - at_ + 1) (by omega)
  have h3 := Int.emod_lt_of_pos (IntKind.u64.wrap c) h1
  exact ⟨((IntKind.u64.wrap c) % ((n : Int) - at_ + 1)).toNat, by omega, by omega⟩

theorem joined_snoc (ps : List ByteArray) (p : ByteArray) : joined (ps ++ [p]) = joined ps ++ p.data.toList := by simp [joined]
theorem extract_list (s : ByteArray) (i j : Nat) : (s.extract i j).data.toList = (s.data.toList.take j).drop i := by
  rw [ByteArray.data_extract, Array.toList_extract, List.extract_eq_take_drop]
  rw [List.drop_take]
theorem piece_joined (s : ByteArray) (ps : List ByteArray) (i j : Nat) (hij : i ≤ j) (h : joined ps = s.data.toList.take i) : joined (ps ++ [s.extract i j]) = s.data.toList.take j := by
  rw [joined_snoc, h, extract_list]
  have : s.data.toList.take i = (s.data.toList.take j).take i := by rw [List.take_take, Nat.min_eq_left hij]
  rw [this, List.take_append_drop]
theorem joined_mem (ps : List ByteArray) (p : ByteArray) (h : p ∈ ps) : p.size ≤ (joined ps).length := by
  induction ps with
  | nil => cases h
  | cons q r ih =>
    have e : joined (q :: r) = q.data.toList ++ joined r := by simp [joined]
    rw [e, List.length_append]
    rcases List.mem_cons.1 h with rfl | h'
    · have : p.data.toList.length = p.size := Array.length_toList
      omega
    · have := ih h'; omega

theorem strs_of_owns {w : World} {base : Nat} {v : Value} {n : Nat} {ps : List ByteArray} {T : TypeId} (h : w.ownsRow base T 1 v n (ps.map Value.string)) (h0 : 0 < n) :
    ∃ g cap, v = .slice (some ⟨g, 0, none⟩) ps.length cap ∧ ps.length ≤ cap ∧ base ≤ g ∧ StrsAt w (some ⟨g, 0, none⟩) ps := by
  have hl : ps.length = n := by have := h.1; simpa using this
  rcases h.2 with ⟨_, h1⟩ | ⟨g, cap, cur, hv, hg, _, hc, _⟩
  · omega
  · subst hv
    refine ⟨g, cap, by rw [hl], by omega, hg, .inr ⟨g, 0, rfl, fun i hi => ?_⟩⟩
    have := h.cellAt i (by omega)
    rw [Nat.zero_add, this]
    simp [List.getD_eq_getElem?_getD, hi]

theorem below_append {B : Nat} {w wr w1 : World} {o : Obj} {v : Value} {n : Nat} {xs : List Value} {T : TypeId} (hb : Below B w wr) (hB : B ≤ wr.heap.size) (hown : wr.ownsRow B T 1 v n xs) (hg : (wr.alloc o).grownBy w1 v.ownBlock) : Below B w w1 :=
  (hb.alloc hB o).grown hg (by simp; omega) (fun k hk => (hown.lt k hk).1)

/-! ### the calls behind the cut, in whatever world has come of one that holds the table -/
theorem of_one (s : ByteArray) (W : World) (hs : s.size ≤ maxLen) (ht : Tab W) :
    Calls Tryd.prog 9 #[.slice (some ⟨W.heap.size, 0, none⟩) 1 1] (W.alloc (.cells #[.string s] 9)) fun e w' => e = .returned (.int .u32 ((crc s.data.toList).toNat : Int)) ∧ Below W.heap.size W w' := by
  have hb : Below W.heap.size W (W.alloc (.cells #[.string s] 9)) := (Below.refl _ W).alloc (Nat.le_refl _) _
  refine (of_any (some ⟨W.heap.size, 0, none⟩) [s] 1 _ (fun x hx => by simp at hx; subst hx; exact hs) (by unfold maxLen; simp) (one_str W s _) (ht.below hb)).mono ?_
  rintro e w' ⟨rfl, rfl⟩
  refine ⟨?_, hb⟩
  have : joined [s] = s.data.toList := by simp [joined]
  rw [this]
theorem seal_one (s : ByteArray) (W : World) (hs : s.size ≤ 2000) (ht : Tab W) :
    Calls Tryd.prog 13 #[.slice (some ⟨W.heap.size, 0, none⟩) 1 1] (W.alloc (.cells #[.string s] 9)) fun e w' => e = .returned (.string (sealStr s.data.toList)) ∧ Below W.heap.size W w' := by
  have hb : Below W.heap.size W (W.alloc (.cells #[.string s] 9)) := (Below.refl _ W).alloc (Nat.le_refl _) _
  have hj : joined [s] = s.data.toList := by simp [joined]
  have hsl : s.data.toList.length = s.size := Array.length_toList
  refine (seal_any (some ⟨W.heap.size, 0, none⟩) [s] 1 _ (fun x hx => by simp at hx; subst hx; unfold maxLen; omega) (one_str W s _) (by simp) (by simp) (by rw [hj]; omega) (ht.below hb)).mono ?_
  rintro e w' ⟨rfl, h2⟩
  rw [hj]
  exact ⟨rfl, hb.trans (h2.mono hb.size)⟩
theorem good_one (l : List UInt8) (W : World) (hl : l.length ≤ 2000) (ht : Tab W) :
    Calls Tryd.prog 16 #[.slice (some ⟨W.heap.size, 0, none⟩) 1 1] (W.alloc (.cells #[.string (sealStr l)] 9)) fun e w' => e = .returned (.bool true) ∧ Below W.heap.size W w' := by
  have hb : Below W.heap.size W (W.alloc (.cells #[.string (sealStr l)] 9)) := (Below.refl _ W).alloc (Nat.le_refl _) _
  have hz : (sealStr l).size = l.length + 4 := by
    show (sealStr l).data.size = _
    have : (sealStr l).data = l.toArray ++ (laidStr l).data := by unfold sealStr; rw [ByteArray.data_append]
    have h4 : (laidStr l).data.size = 4 := laid_size l
    rw [this, Array.size_append, h4]; simp
  refine (good_any (some ⟨W.heap.size, 0, none⟩) [sealStr l] 1 _ (fun x hx => by simp at hx; subst hx; unfold maxLen; omega) (by unfold maxLen; simp) (one_str W _ _) (ht.below hb)).mono ?_
  rintro e w' ⟨rfl, h2⟩
  refine ⟨?_, hb.trans (h2.mono hb.size)⟩
  have : goodAll [sealStr l] = true := by simp [goodAll, openRes_seal]
  rw [this]

set_option maxHeartbeats 400000 in
theorem sumParts_walk (s : ByteArray) (a : Option Addr) (l : List Int) (cap : Nat) (w : World) (hs : s.size ≤ maxLen) (hn : l.length ≤ maxLen) (ha : IntsAt w a l) (ht : Tab w) :
    Calls Tryd.prog 6 #[.string s, .slice a l.length cap] w fun e w' => e = .returned (.bool true) ∧ Below w.heap.size w w' := by
  have HT := Lib.hid ht; clear ht
  have HA := Lib.hid ha; clear ha
  unfold maxLen at hs hn
  obtain ⟨i0, hi, hz0, hz1, hz2⟩ := info_parts infoS
  by_cases hbig : s.size ≤ 2000 ∧ l.length ≤ 10
  · obtain ⟨h1, h2⟩ := hbig
    have h1' : (s.size : Int) ≤ 2000 := by omega
    have h2' : (l.length : Int) ≤ 10 := by omega
    go_enter Tryd.func6, Tryd.ntmps6
    go_wp2
    go_loopw [5, 6, 7] (fun v x i wr => ∃ (k : Nat) (at_ : Nat) (ps : List ByteArray), k ≤ l.length ∧ i = .int .i64 k ∧ at_ ≤ s.size ∧ x = .int .i64 at_ ∧ Hid (ps.length = k) ∧ Hid (joined ps = s.data.toList.take at_) ∧ wr.ownsRow w.heap.size 9 1 v k (ps.map Value.string) ∧ Below w.heap.size w wr) (fun _ _ i _ => l.length - (intOf i).toNat)
    case atStart => exact ⟨0, 0, [], Nat.zero_le _, rfl, Nat.zero_le _, rfl, rfl, rfl, World.ownsRow_nil _ _ _ _, Below.refl _ _⟩
    case round =>
      obtain ⟨k, at_, ps, hk, rfl, hat, rfl, HP, HJ, hown, hbr⟩ := hrel
      have hsz := hbr.size
      by_cases hlt : k < l.length
      · obtain ⟨b, off, rfl, hc⟩ : ∃ b off, a = some ⟨b, off, none⟩ ∧ ∀ i, i < l.length → w.cell? ⟨b, off + i, none⟩ = some (.int .i64 (l.getD i 0)) := by
          rcases HA.out with h | h
          · rw [h] at hlt; simp at hlt
          · exact h
        have hck := (hbr.cell (p := ⟨b, off + k, none⟩) (cell_lt (hc k hlt))).trans (hc k hlt)
        clear hc
        obtain ⟨c, hc⟩ : ∃ c, c = l.getD k 0 := ⟨_, rfl⟩
        rw [← hc] at hck
        clear hc
        obtain ⟨d, ed, hd⟩ := cut_place c s.size at_ hat
        have hd' : (at_ : Int) + (d : Int) ≤ (s.size : Int) := by omega
        have HB := Lib.hid (fun w1 o (hg : (wr.alloc o).grownBy w1 _) => below_append hbr hsz hown hg)
        go_wp2_with (at_builtin; refine wpList_append_own _ rfl _ _ 22 rfl w.heap.size 9 i0 (.string ⟨#[]⟩) 1 16 Tryd.underlying22 hi hz0 hz1 hz2 rfl (by decide) _ _ _ rfl (hown.alloc _) ⟨wr.heap.size, 0, none⟩ 1 1 [.string (s.extract at_ (at_ + d))] rfl rfl ?c1 ?c2 ?c3 ?c4 ?c5 ?_)
        case c1 =>
          intro j u hj
          match j, hj with
          | 0, hj => simp at hj; subst hj; simp [Addr.add]
        case c2 => intro u hu; simp at hu; subst hu; rfl
        case c3 => unfold maxLen; omega
        case c4 => omega
        case c5 => simp; omega
        · intro v' w1 hown' hgrow _
          have hbn := HB.out _ _ hgrow
          have hj2 : joined (ps ++ [s.extract at_ (at_ + d)]) = s.data.toList.take (at_ + d) := piece_joined s ps at_ (at_ + d) (by omega) HJ.out
          have HJ2 := Lib.hid hj2
          have HP2 : Hid ((ps ++ [s.extract at_ (at_ + d)]).length = k + 1) := by have := HP.out; rw [Hid, List.length_append]; simp; omega
          obtain ⟨ps', hps'⟩ : ∃ ps', ps' = ps ++ [s.extract at_ (at_ + d)] := ⟨_, rfl⟩
          have hm : ps.map Value.string ++ [.string (s.extract at_ (at_ + d))] = ps'.map Value.string := by rw [hps']; simp
          rw [hm] at hown'
          rw [← hps'] at HJ2 HP2
          clear hgrow hown hj2 hps' hm HB
          go_wp2
          go_roundw
          case rel => exact ⟨k + 1, at_ + d, ps', by omega, by go_num, by omega, by go_num, HP2, HJ2, hown', hbn⟩
          case measure => simp [intOf]; omega
      · have HB := Lib.hid (fun w1 o (hg : (wr.alloc o).grownBy w1 _) => below_append hbr hsz hown hg)
        go_wp2_with (at_builtin; refine wpList_append_own _ rfl _ _ 22 rfl w.heap.size 9 i0 (.string ⟨#[]⟩) 1 16 Tryd.underlying22 hi hz0 hz1 hz2 rfl (by decide) _ _ _ rfl (hown.alloc _) ⟨wr.heap.size, 0, none⟩ 1 1 [.string (s.extract at_ s.size)] rfl rfl ?d1 ?d2 ?d3 ?d4 ?d5 ?_)
        case d1 =>
          intro j u hj
          match j, hj with
          | 0, hj => simp at hj; subst hj; simp [Addr.add]
        case d2 => intro u hu; simp at hu; subst hu; rfl
        case d3 => unfold maxLen; omega
        case d4 => omega
        case d5 => simp; omega
        · intro v' w1 hown' hgrow _
          have hbn := HB.out _ _ hgrow
          have hj2 : joined (ps ++ [s.extract at_ s.size]) = s.data.toList := by
            rw [piece_joined s ps at_ s.size hat HJ.out]
            have : s.data.toList.length = s.size := Array.length_toList
            rw [List.take_of_length_le (by omega)]
          have hm : ps.map Value.string ++ [.string (s.extract at_ s.size)] = (ps ++ [s.extract at_ s.size]).map Value.string := by simp
          rw [hm] at hown'
          obtain ⟨g, cp, rfl, hcp, _, hst⟩ := strs_of_owns hown' (by omega)
          have hl10 : (ps ++ [s.extract at_ s.size]).length ≤ 11 := by have := HP.out; rw [List.length_append]; simp; omega
          have hsl : s.data.toList.length = s.size := Array.length_toList
          have hshort : Short (ps ++ [s.extract at_ s.size]) := fun p hp => by
            have := joined_mem _ p hp
            rw [hj2, hsl] at this
            unfold maxLen; omega
          have hone : Short [s] := fun p hp => by
            have : p = s := by simpa using hp
            subst this; unfold maxLen; omega
          have HJ2 := Lib.hid hj2
          have HSL := Lib.hid hsl
          obtain ⟨qs, hqs⟩ : ∃ qs, qs = ps ++ [s.extract at_ s.size] := ⟨_, rfl⟩
          rw [← hqs] at HJ2 hst hcp hshort hl10 ⊢
          have hs2 : s.size ≤ maxLen := by unfold maxLen; omega
          have hT1 := HT.out.below hbn
          have kOf : ∀ W, Below w1.heap.size w1 W → Calls Tryd.prog 9 #[.slice (some ⟨g, 0, none⟩) qs.length cp] W fun e w' => e = .returned (.int .u32 ((crc s.data.toList).toNat : Int)) ∧ W = w' := fun W hW => by
            have := of_any (some ⟨g, 0, none⟩) qs cp W hshort (by unfold maxLen; omega) (hst.below hW) (hT1.below hW)
            rw [HJ2.out] at this; exact this
          have kOf1 : ∀ W, Below w1.heap.size w1 W → Calls Tryd.prog 9 #[.slice (some ⟨W.heap.size, 0, none⟩) 1 1] (W.alloc (.cells #[.string s] 9)) fun e w' => e = .returned (.int .u32 ((crc s.data.toList).toNat : Int)) ∧ Below w1.heap.size w1 w' := fun W hW =>
            (of_one s W hs2 (hT1.below hW)).mono fun e w' h => ⟨h.1, hW.trans (h.2.mono hW.size)⟩
          have kSeal : ∀ W, Below w1.heap.size w1 W → Calls Tryd.prog 13 #[.slice (some ⟨g, 0, none⟩) qs.length cp] W fun e w' => e = .returned (.string (sealStr s.data.toList)) ∧ Below w1.heap.size w1 w' := fun W hW => by
            have := seal_any (some ⟨g, 0, none⟩) qs cp W hshort (hst.below hW) hcp (by omega) (by rw [HJ2.out]; omega) (hT1.below hW)
            rw [HJ2.out] at this
            exact this.mono fun e w' h => ⟨h.1, hW.trans (h.2.mono hW.size)⟩
          have kSeal1 : ∀ W, Below w1.heap.size w1 W → Calls Tryd.prog 13 #[.slice (some ⟨W.heap.size, 0, none⟩) 1 1] (W.alloc (.cells #[.string s] 9)) fun e w' => e = .returned (.string (sealStr s.data.toList)) ∧ Below w1.heap.size w1 w' := fun W hW =>
            (seal_one s W (by omega) (hT1.below hW)).mono fun e w' h => ⟨h.1, hW.trans (h.2.mono hW.size)⟩
          have kGood1 : ∀ W, Below w1.heap.size w1 W → Calls Tryd.prog 16 #[.slice (some ⟨W.heap.size, 0, none⟩) 1 1] (W.alloc (.cells #[.string (sealStr s.data.toList)] 9)) fun e w' => e = .returned (.bool true) ∧ Below w1.heap.size w1 w' := fun W hW =>
            (good_one _ W (by omega) (hT1.below hW)).mono fun e w' h => ⟨h.1, hW.trans (h.2.mono hW.size)⟩
          have kAwake : ∀ W, Below w1.heap.size w1 W → Calls Tryd.prog 8 #[] W fun e w' => e = .returned (.bool true) ∧ Below w1.heap.size w1 w' := fun W hW =>
            (awake_any W (hT1.below hW)).mono fun e w' h => ⟨h.1, hW.trans (h.2.mono hW.size)⟩
          have ql : qs.length = k + 1 := by rw [hqs, List.length_append, HP.out]; rfl
          rw [ql] at kOf kSeal ⊢
          obtain ⟨S, hS⟩ : ∃ S, S = sealStr s.data.toList := ⟨_, rfl⟩
          rw [← hS] at kSeal kSeal1 kGood1
          have KO := Lib.hid kOf
          have KO1 := Lib.hid kOf1
          have KS := Lib.hid kSeal
          have KS1 := Lib.hid kSeal1
          have KG := Lib.hid kGood1
          have KA := Lib.hid kAwake
          clear hgrow hown hj2 hqs hm HB hown' hshort hsl hst kOf kOf1 kSeal kSeal1 kGood1 kAwake hT1 ql hl10 hcp hS HP HJ HJ2
          go_wp2_with fail
          refine (KO.out _ (Below.refl _ _)).mono ?_
          rintro e w2 ⟨rfl, rfl⟩
          go_wp2_with fail
          refine (KO1.out _ (Below.refl _ _)).mono ?_
          rintro e w2 ⟨rfl, hb2⟩
          go_wp2_with fail
          refine (KS.out _ hb2).mono ?_
          rintro e w3 ⟨rfl, hb3⟩
          go_wp2_with fail
          refine (KS1.out _ hb3).mono ?_
          rintro e w4 ⟨rfl, hb4⟩
          go_wp2_with fail
          refine (KS.out _ hb4).mono ?_
          rintro e w5 ⟨rfl, hb5⟩
          go_wp2_with fail
          refine (KG.out _ hb5).mono ?_
          rintro e w6 ⟨rfl, hb6⟩
          go_wp2_with fail
          refine (KA.out _ hb6).mono ?_
          rintro e w7 ⟨rfl, hb7⟩
          go_wp2
          go_ret
          exact ⟨rfl, hbn.trans (hb7.mono hbn.size)⟩
  · have KA := Lib.hid (awake_any w HT.out)
    by_cases hb2 : s.size ≤ 2000
    · have h3 : (s.size : Int) ≤ 2000 := by omega
      have h4 : (10 : Int) < (l.length : Int) := by omega
      go_enter Tryd.func6, Tryd.ntmps6
      go_wp2_with fail
      refine KA.out.mono ?_
      rintro e w1 ⟨rfl, hb⟩
      go_wp2
      go_ret
      exact ⟨rfl, hb⟩
    · have h3 : (2000 : Int) < (s.size : Int) := by omega
      go_enter Tryd.func6, Tryd.ntmps6
      go_wp2_with fail
      refine KA.out.mono ?_
      rintro e w1 ⟨rfl, hb⟩
      go_wp2
      go_ret
      exact ⟨rfl, hb⟩
end Go.Proofs.YtcdnohgnmfaclaaDoor
