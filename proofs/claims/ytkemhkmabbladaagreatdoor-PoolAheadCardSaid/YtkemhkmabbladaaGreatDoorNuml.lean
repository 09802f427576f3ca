/-
  WORDS FOR ROWS OF NUMBERS.
  THE CONTRACTS OF nums.fits AND nums.Put: numbers laid, the highest byte first.
  THE CONTRACT OF nums.Take: the number at the beginning, and what stands behind.
-/
import Derived.Test.YtkemhkmabbladaaGreatDoorSums
import Derived.WalkLawsBesides
import Derived.Deep.RegionHeld3
import Derived.Deep.QuietTactic
import Derived.BigQuiet
import Derived.Lib.Hide
import Derived.OpenShut
import Derived.WalkSpells

namespace Go.Proofs.YtkemhkmabbladaaGreatDoor
open Go.RowKit

/-- A slice of ints that reads as these numbers. -/
def IntsAt (w : World) (a : Option Addr) (l : List Int) : Prop :=
  l = [] ∨ ∃ b off, a = some ⟨b, off, none⟩ ∧ ∀ i, i < l.length → w.cell? ⟨b, off + i, none⟩ = some (.int .i64 (l.getD i 0))
def Ints64 (l : List Int) : Prop := ∀ n ∈ l, (Lit.int .i64 n).wf = true

theorem IntsAt.below {w w' : World} {a : Option Addr} {l : List Int} (h : IntsAt w a l) (hb : Below w.heap.size w w') : IntsAt w' a l := by
  rcases h with h | ⟨b, off, e, h⟩
  · exact .inl h
  · refine .inr ⟨b, off, e, fun i hi => ?_⟩
    have h0 := cell_lt (h i hi)
    rw [hb.cell (p := ⟨b, off + i, none⟩) h0]; exact h i hi
theorem IntsAt.cell {w : World} {a : Option Addr} {l : List Int} (h : IntsAt w a l) {k : Nat} (hk : k < l.length) : ∃ b off, a = some ⟨b, off, none⟩ ∧ w.cell? ⟨b, off + k, none⟩ = some (.int .i64 (l.getD k 0)) := by
  rcases h with rfl | ⟨b, off, e, h⟩
  · simp at hk
  · exact ⟨b, off, e, h k hk⟩
theorem take_one (l : List Int) (k : Nat) (h : k < l.length) : l.take (k + 1) = l.take k ++ [l.getD k 0] := by
  rw [List.take_succ_eq_append_getElem h]; simp [List.getD_eq_getElem?_getD, h]
theorem ret_i64 {a b : Int} (h : a = b) : Ending.returned (.int .i64 a) = .returned (.int .i64 b) := by rw [h]

theorem wf_getD {l : List Int} (h : Ints64 l) (k : Nat) : -9223372036854775808 ≤ l.getD k 0 ∧ l.getD k 0 ≤ 9223372036854775807 := by
  rw [List.getD_eq_getElem?_getD]
  by_cases hk : k < l.length
  · have := bounds_i64 (h l[k] (List.getElem_mem hk))
    simp [hk]; omega
  · simp [List.getElem?_eq_none (by omega : l.length ≤ k)]

theorem ret_bool {a b : Bool} (h : a = b) : Ending.returned (.bool a) = .returned (.bool b) := by rw [h]

theorem two_ints (w : World) (x y : Int) (T : TypeId) : IntsAt (w.alloc (.cells #[.int .i64 x, .int .i64 y] T)) (some ⟨w.heap.size, 0, none⟩) [x, y] :=
  .inr ⟨w.heap.size, 0, rfl, fun i hi => by
    match i, hi with
    | 0, _ => simp [World.cell?_alloc_at]
    | 1, _ => simp [World.cell?_alloc_at]⟩
theorem one_int (w : World) (x : Int) (T : TypeId) : IntsAt (w.alloc (.cells #[.int .i64 x] T)) (some ⟨w.heap.size, 0, none⟩) [x] :=
  .inr ⟨w.heap.size, 0, rfl, fun i hi => by
    match i, hi with
    | 0, _ => simp [World.cell?_alloc_at]⟩
end Go.Proofs.YtkemhkmabbladaaGreatDoor

namespace Go.Proofs.YtkemhkmabbladaaGreatDoor
open Go.RowKit

/-- A number in k bytes, the highest first. -/
def be (k : Nat) (n : Nat) : List UInt8 := (List.range k).map fun i => UInt8.ofNat (n / 256 ^ (k - 1 - i) % 256)
def fitsN (k : Nat) (n : Int) : Bool := decide (0 ≤ n) && decide (n.toNat < 256 ^ k)
def fitsL (size : Int) (l : List Int) : Bool := decide (1 ≤ size) && decide (size ≤ 8) && l.all (fitsN size.toNat)
def putL (size : Int) (l : List Int) : List UInt8 := if fitsL size l then l.flatMap fun n => be size.toNat n.toNat else []

theorem fits_shift (k : Nat) (n : Int) (h0 : 0 ≤ n) : (n / 2 ^ (8 * k) != 0) = !decide (n.toNat < 256 ^ k) := by
  obtain ⟨m, rfl⟩ := Int.eq_ofNat_of_zero_le h0
  rw [Int.toNat_natCast]
  have e2 : (2 : Int) ^ (8 * k) = ((256 ^ k : Nat) : Int) := by
    rw [Int.pow_mul]; simp
  rw [e2]
  have hp : 0 < 256 ^ k := Nat.pow_pos (by omega)
  rw [Bool.eq_iff_iff]
  simp only [bne_iff_ne, ne_eq, Bool.not_eq_true', decide_eq_false_iff_not]
  have : ((m : Int) / ((256 ^ k : Nat) : Int)) = ((m / 256 ^ k : Nat) : Int) := by simp
  rw [this]
  constructor
  · intro h hlt
    exact h (by rw [Nat.div_eq_of_lt hlt]; rfl)
  · intro h h2
    have h3 : m / 256 ^ k = 0 := by omega
    exact h ((Nat.div_eq_zero_iff_lt hp).1 h3)

set_option maxHeartbeats 400000 in
theorem fits_any (size : Int) (a : Option Addr) (l : List Int) (cap : Nat) (w : World) (hsz : -9223372036854775808 ≤ size ∧ size ≤ 9223372036854775807) (hw : Ints64 l) (hn : l.length ≤ maxLen) (ha : IntsAt w a l) :
    Calls Tryz.prog 120 #[.int .i64 size, .slice a l.length cap] w fun e w' => e = .returned (.bool (fitsL size l)) ∧ w = w' := by
  unfold maxLen at hn
  obtain ⟨hs1, hs2⟩ := hsz
  have HA := Lib.hid ha; clear ha
  have HW := Lib.hid hw; clear hw
  by_cases h1 : 1 ≤ size
  · by_cases h8 : size ≤ 8
    · obtain ⟨k, rfl⟩ := Int.eq_ofNat_of_zero_le (a := size) (by omega)
      have hk8 : k ≤ 8 := by omega
      have HD : Hid (fitsL (k : Int) l = l.all (fitsN k)) := by
        rw [Hid]; unfold fitsL; rw [Int.toNat_natCast]; simp [h1, h8]
      go_enter Tryz.func120, Tryz.ntmps120
      go_wp2
      go_loop [15] (fun i => ∃ j : Nat, j ≤ l.length ∧ i = .int .i64 j ∧ Hid ((l.take j).all (fitsN k) = true)) (fun i => l.length - (intOf i).toNat)
      case atStart => exact ⟨0, Nat.zero_le _, rfl, rfl⟩
      case round =>
        obtain ⟨j, hj, rfl, hall⟩ := hrel
        by_cases hlt : j < l.length
        · obtain ⟨b, off, rfl, hc⟩ := HA.out.cell hlt
          have hbd := wf_getD HW.out j
          have H1 := Lib.hid (take_one l j hlt)
          have hmem : l.getD j 0 ∈ l := by rw [List.getD_eq_getElem?_getD, List.getElem?_eq_getElem hlt]; exact List.getElem_mem _
          obtain ⟨c, hcc⟩ : ∃ c, c = l.getD j 0 := ⟨_, rfl⟩
          rw [← hcc] at hc hbd H1 hmem
          have HM := Lib.hid hmem; clear hmem hcc
          by_cases hneg : c < 0
          · go_wp2
            go_ret
            exact ⟨ret_bool (by
              rw [HD.out, eq_comm, List.all_eq_false]
              exact ⟨c, HM.out, by unfold fitsN; simp; intro h; omega⟩), rfl⟩
          · have hge : 0 ≤ c := by omega
            have hsh := fits_shift k c hge
            by_cases hf : c.toNat < 256 ^ k
            · rw [show (!decide (c.toNat < 256 ^ k)) = false from by simp [hf]] at hsh
              have HFt : Hid (fitsN k c = true) := by rw [Hid]; unfold fitsN; simp [hge, hf]
              clear hf
              go_wp2
              go_round
              case rel => exact ⟨j + 1, by omega, by go_num, by rw [Hid, H1.out, List.all_append, hall.out]; simp [HFt.out]⟩
              case measure => simp [intOf]; omega
            · rw [show (!decide (c.toNat < 256 ^ k)) = true from by simp [hf]] at hsh
              have HFt : Hid (fitsN k c = false) := by rw [Hid]; unfold fitsN; simp [hf]
              clear hf
              go_wp2
              go_ret
              exact ⟨ret_bool (by rw [HD.out, eq_comm, List.all_eq_false]; exact ⟨c, HM.out, by rw [HFt.out]; simp⟩), rfl⟩
        · go_wp2
          go_ret
          exact ⟨ret_bool (by rw [HD.out, ← hall.out, List.take_of_length_le (by omega)]), rfl⟩
    · have HD : Hid (fitsL size l = false) := by rw [Hid]; unfold fitsL; simp [h8]
      go_enter Tryz.func120, Tryz.ntmps120
      go_wp2
      go_ret
      exact ⟨ret_bool HD.out.symm, rfl⟩
  · have HD : Hid (fitsL size l = false) := by rw [Hid]; unfold fitsL; simp [h1]
    go_enter Tryz.func120, Tryz.ntmps120
    go_wp2
    go_ret
    exact ⟨ret_bool HD.out.symm, rfl⟩

/-! ### the bytes -/
def byteVals (l : List UInt8) : List Value := l.map fun c => Value.int .u8 (c.toNat : Int)
theorem be_len (k n : Nat) : (be k n).length = k := by simp [be]
theorem be_take (k n j : Nat) (h : j < k) : (be k n).take (j + 1) = (be k n).take j ++ [UInt8.ofNat (n / 256 ^ (k - 1 - j) % 256)] := by
  rw [List.take_succ_eq_append_getElem (by rw [be_len]; exact h)]
  simp [be]
theorem byte_val (c : Int) (k j : Nat) (h0 : 0 ≤ c) (_h : j < k) : c / 2 ^ (8 * (k - 1 - j)) % 256 = ((UInt8.ofNat (c.toNat / 256 ^ (k - 1 - j) % 256)).toNat : Int) := by
  obtain ⟨m, rfl⟩ := Int.eq_ofNat_of_zero_le h0
  rw [Int.toNat_natCast]
  have e2 : (2 : Int) ^ (8 * (k - 1 - j)) = ((256 ^ (k - 1 - j) : Nat) : Int) := by
    rw [Int.pow_mul]; simp
  rw [e2, UInt8.toNat_ofNat', Nat.mod_eq_of_lt (by omega)]
  simp
def flatBe (k : Nat) (l : List Int) : List UInt8 := l.flatMap fun n => be k n.toNat
theorem flatBe_len (k : Nat) : ∀ l, (flatBe k l).length = k * l.length
  | [] => by simp [flatBe]
  | n :: l => by
    have := flatBe_len k l
    unfold flatBe at this ⊢
    rw [List.flatMap_cons, List.length_append, be_len, this, List.length_cons, Nat.mul_succ]; omega
theorem flatBe_take (k : Nat) (l : List Int) (j : Nat) (h : j < l.length) : flatBe k (l.take (j + 1)) = flatBe k (l.take j) ++ be k (l.getD j 0).toNat := by
  rw [take_one l j h]; simp [flatBe]

theorem infoB : (Tryz.prog.info? 5).map (fun i => (i.zero, i.size, i.bytes)) = some (some (.int .u8 0), 1, 1) := by kernel_rfl

/-- string(b) of a row of the call's own. -/
theorem bytes_str {w : World} {B : Nat} {v : Value} {l : List UInt8} (h : w.ownsRow B 5 1 v l.length (byteVals l)) :
    (convert 134 9 v).run Tryz.prog w = .ok (.string ⟨l.toArray⟩) w := by
  rcases h.2 with ⟨hv, h0⟩ | ⟨g, c, cur, hv, _⟩
  · have : l = [] := List.length_eq_zero_iff.1 h0
    subst this
    rw [hv]
    exact run_convert_bytes_nil w 134 5 Tryz.underlying134 Tryz.underlying5 0 0 9 Tryz.underlying9
  · subst hv
    refine run_convert_bytes_back w 134 9 5 ⟨g, 0, none⟩ c l Tryz.underlying134 Tryz.underlying5 Tryz.underlying9 fun j hj => ?_
    have e : (⟨g, 0, none⟩ : Addr).add j = ⟨g, j, none⟩ := by unfold Addr.add; split <;> simp_all
    rw [e, h.cellAt j (by omega)]
    unfold byteVals
    rw [List.getElem?_map, List.getElem?_eq_getElem hj]; rfl

set_option maxHeartbeats 1000000 in
theorem put_any (size : Int) (a : Option Addr) (l : List Int) (cap : Nat) (w : World) (hsz : -9223372036854775808 ≤ size ∧ size ≤ 9223372036854775807) (hw : Ints64 l) (hn : l.length ≤ 1000) (ha : IntsAt w a l) :
    Calls Tryz.prog 100 #[.int .i64 size, .slice a l.length cap] w fun e w' => e = .returned (.string ⟨(putL size l).toArray⟩) ∧ Below w.heap.size w w' := by
  obtain ⟨i0, hi, hz0, hz1, hz2⟩ := info_parts infoB
  have HFT := Lib.hid (fits_any size a l cap w hsz hw (by unfold maxLen; omega) ha)
  by_cases hfit : fitsL size l = true
  · rw [hfit] at HFT
    have hfit0 := hfit
    unfold fitsL at hfit
    simp only [Bool.and_eq_true, decide_eq_true_iff] at hfit
    obtain ⟨⟨h1, h8⟩, hall⟩ := hfit
    obtain ⟨k, rfl⟩ := Int.eq_ofNat_of_zero_le (a := size) (by omega)
    have HPL : Hid (putL (k : Int) l = flatBe k l) := by rw [Hid]; unfold putL flatBe; rw [if_pos hfit0]; rfl
    rw [Int.toNat_natCast] at hall
    have HALL := Lib.hid hall
    have HA := Lib.hid ha
    clear ha hall hfit0 hw hsz
    go_enter Tryz.func100, Tryz.ntmps100
    go_wp2_with fail
    refine HFT.out.mono ?_
    rintro e w1 ⟨rfl, rfl⟩
    have hmle : k * l.length ≤ 8000 := by
      have : k ≤ 8 := by omega
      exact Nat.le_trans (Nat.mul_le_mul this hn) (by omega)
    obtain ⟨M, hM⟩ : ∃ M, M = k * l.length := ⟨_, rfl⟩
    have hm1 : (k : Int) * (l.length : Int) = (M : Int) := by rw [hM]; simp
    rw [← hM] at hmle
    have HM := Lib.hid hM; clear hM
    go_wp2_with (at_make; refine wpList_make_own _ rfl _ _ 134 rfl w.heap.size 5 i0 (.int .u8 0) 1 Tryz.underlying134 hi hz0 hz1 _ _ _ M rfl rfl (by omega) ?b2 ?b3 (Nat.le_refl _) ?_)
    case b2 => rw [hz2]; omega
    case b3 => unfold maxLen; omega
    · intro w0 hown0 hgrow0
      have hb0 : Below w.heap.size w w0 := (Below.refl _ w).grown hgrow0 (Nat.le_refl _) (fun k hk => by cases hk)
      have HO0 := Lib.hid hown0; clear hown0 hgrow0
      go_wp2
      go_loopw [5, 20] (fun v i wr => ∃ j : Nat, j ≤ l.length ∧ i = .int .i64 j ∧ Hid (wr.ownsRow w.heap.size 5 1 v (flatBe k (l.take j)).length (byteVals (flatBe k (l.take j)))) ∧ Below w.heap.size w wr) (fun _ i _ => l.length - (intOf i).toNat)
      case atStart => exact ⟨0, Nat.zero_le _, rfl, HO0.out, hb0⟩
      case round =>
        obtain ⟨j, hj, rfl, hown, hbr⟩ := hrel
        by_cases hlt : j < l.length
        · obtain ⟨b, off, rfl, hc0⟩ := HA.out.cell hlt
          have hc := (hbr.cell (p := ⟨b, off + j, none⟩) (cell_lt hc0)).trans hc0
          clear hc0
          have hmem : l.getD j 0 ∈ l := by rw [List.getD_eq_getElem?_getD, List.getElem?_eq_getElem hlt]; exact List.getElem_mem _
          have hfit1 := List.all_eq_true.1 HALL.out _ hmem
          have HT := Lib.hid (flatBe_take k l j hlt)
          have hfl := flatBe_len k (l.take j)
          have hfl2 : (l.take j).length ≤ 1000 := by rw [List.length_take]; omega
          have hfl3 : k * (l.take j).length ≤ 8000 := Nat.le_trans (Nat.mul_le_mul (show k ≤ 8 by omega) hfl2) (by omega)
          obtain ⟨F, hF⟩ : ∃ F, F = flatBe k (l.take j) := ⟨_, rfl⟩
          obtain ⟨c, hcc⟩ : ∃ c, c = l.getD j 0 := ⟨_, rfl⟩
          rw [← hF] at hfl hown HT
          rw [← hcc] at hc hfit1 HT
          have hc0 : 0 ≤ c := by unfold fitsN at hfit1; simp at hfit1; exact hfit1.1
          have hFl : F.length ≤ 8000 := by omega
          clear hF hcc hmem hfit1 hfl hfl2 hfl3
          go_wp2
          go_loopw [5, 25] (fun v i wr => ∃ x : Nat, x ≤ k ∧ i = .int .i64 x ∧ Hid (wr.ownsRow w.heap.size 5 1 v (F ++ (be k c.toNat).take x).length (byteVals (F ++ (be k c.toNat).take x))) ∧ Below w.heap.size w wr) (fun _ i _ => k - (intOf i).toNat)
          case atStart => exact ⟨0, Nat.zero_le _, rfl, by rw [List.take_zero, List.append_nil]; exact hown, hbr⟩
          case round =>
            obtain ⟨x, hx, rfl, hown2, hbr2⟩ := hrel
            have hsz2 := hbr2.size
            by_cases hxk : x < k
            · have hTl : ((be k c.toNat).take x).length ≤ 8 := by rw [List.length_take, be_len]; omega
              have HBT := Lib.hid (be_take k c.toNat x hxk)
              have HBV := Lib.hid (byte_val c k x hc0 hxk)
              obtain ⟨T, hT⟩ : ∃ T, T = (be k c.toNat).take x := ⟨_, rfl⟩
              rw [← hT] at HBT hown2 hTl
              obtain ⟨y, hy⟩ : ∃ y, y = UInt8.ofNat (c.toNat / 256 ^ (k - 1 - x) % 256) := ⟨_, rfl⟩
              rw [← hy] at HBT HBV
              obtain ⟨d, hd⟩ : ∃ d : Nat, d = k - 1 - x := ⟨_, rfl⟩
              rw [← hd] at HBV
              have hd2 : (k : Int) - 1 - (x : Int) = (d : Int) := by omega
              have hbv := HBV.out
              clear hT hy HBV
              have hd7 : d ≤ 7 := by omega
              have HD := Lib.hid hd; clear hd
              have hlF : (F ++ T).length ≤ 9000 := by rw [List.length_append]; omega
              have hown3 := hown2.out
              obtain ⟨FT, hFT⟩ : ∃ FT, FT = F ++ T := ⟨_, rfl⟩
              rw [← hFT] at hown3 hlF
              have HFTe := Lib.hid hFT; clear hFT hown2
              go_wp2_with (at_builtin; refine wpList_append_own _ rfl _ _ 134 rfl w.heap.size 5 i0 (.int .u8 0) 1 1 Tryz.underlying134 hi hz0 hz1 hz2 rfl (by decide) _ _ _ rfl (hown3.alloc _) ⟨wr.heap.size, 0, none⟩ 1 1 [.int .u8 (y.toNat : Int)] rfl rfl ?c1 ?c2 ?c3 ?c4 ?c5 ?_)
              case c1 =>
                intro j u hj
                match j, hj with
                | 0, hj => simp at hj; subst hj; simp [Addr.add]
              case c2 => intro u hu; simp at hu; subst hu; rfl
              case c3 => unfold maxLen; omega
              case c4 => omega
              case c5 => simp; omega
              · intro v' w1 hown' hgrow _
                have hbn : Below w.heap.size w w1 := (hbr2.alloc hsz2 _).grown hgrow (by simp; omega) (fun k hk => (hown3.lt k hk).1)
                have hbv2 : byteVals FT ++ [.int .u8 (y.toNat : Int)] = byteVals (FT ++ [y]) := by simp [byteVals]
                have hl2 : FT.length + 1 = (FT ++ [y]).length := by simp
                rw [hbv2, hl2, HFTe.out, List.append_assoc, ← HBT.out] at hown'
                have HON := Lib.hid hown'
                clear hown' hgrow hown3 hbv2 hl2
                go_wp2
                go_roundw
                case rel => exact ⟨x + 1, by omega, by go_num, HON.out, hbn⟩
                case measure => simp [intOf]; omega
            · have hfull : F ++ (be k c.toNat).take x = flatBe k (l.take (j + 1)) := by rw [HT.out, List.take_of_length_le (by rw [be_len]; omega)]
              rw [hfull] at hown2
              clear hfull
              go_wp2
              go_roundw
              case rel => exact ⟨j + 1, by omega, by go_num, hown2.out, hbr2⟩
              case measure => simp [intOf]; omega
        · have hfull : flatBe k (l.take j) = flatBe k l := by rw [List.take_of_length_le (by omega)]
          rw [hfull] at hown
          have kc := bytes_str hown.out
          go_wp2
          go_ret
          exact ⟨by rw [HPL.out]; rfl, hbr⟩
  · have hf : fitsL size l = false := by cases h : fitsL size l; rfl; exact absurd h hfit
    rw [hf] at HFT
    have HPL : Hid (putL size l = []) := by rw [Hid]; unfold putL; rw [if_neg hfit]
    clear hfit hf ha hw hsz
    go_enter Tryz.func100, Tryz.ntmps100
    go_wp2_with fail
    refine HFT.out.mono ?_
    rintro e w1 ⟨rfl, rfl⟩
    go_wp2
    go_ret
    exact ⟨by rw [HPL.out]; rfl, Below.refl _ _⟩
theorem be_succ (k n : Nat) : be (k + 1) n = UInt8.ofNat (n / 256 ^ k % 256) :: be k n := by
  unfold be
  rw [List.range_succ_eq_map, List.map_cons, List.map_map]
  congr 1
  apply List.map_congr_left
  intro i hi
  have hik : i < k := List.mem_range.1 hi
  simp only [Function.comp]
  rw [show k + 1 - 1 - (i + 1) = k - 1 - i from by omega]
theorem mod_split (k n : Nat) : n % 256 ^ (k + 1) = n / 256 ^ k % 256 * 256 ^ k + n % 256 ^ k := by
  rw [Nat.pow_succ, Nat.mod_mul, Nat.mul_comm (256 ^ k), Nat.add_comm]

theorem be_less : ∀ (k m n : Nat), Op.bytesLess (be k m) (be k n) = decide (m % 256 ^ k < n % 256 ^ k) ∧ (be k m = be k n ↔ m % 256 ^ k = n % 256 ^ k)
  | 0, m, n => by simp [be, Op.bytesLess, Nat.mod_one]
  | k + 1, m, n => by
    obtain ⟨h1, h2⟩ := be_less k m n
    rw [be_succ, be_succ, mod_split, mod_split]
    have hp : 0 < 256 ^ k := Nat.pow_pos (by omega)
    have r1 := Nat.mod_lt m hp
    have r2 := Nat.mod_lt n hp
    have d1 : m / 256 ^ k % 256 < 256 := Nat.mod_lt _ (by omega)
    have d2 : n / 256 ^ k % 256 < 256 := Nat.mod_lt _ (by omega)
    obtain ⟨x, hx⟩ : ∃ x, x = m / 256 ^ k % 256 := ⟨_, rfl⟩
    obtain ⟨y, hy⟩ : ∃ y, y = n / 256 ^ k % 256 := ⟨_, rfl⟩
    obtain ⟨P, hP⟩ : ∃ P, P = 256 ^ k := ⟨_, rfl⟩
    rw [← hx] at d1 ⊢
    rw [← hy] at d2 ⊢
    rw [← hP] at h1 h2 r1 r2 ⊢
    have hxv : (UInt8.ofNat x).toNat = x := by rw [UInt8.toNat_ofNat', Nat.mod_eq_of_lt (by omega)]
    have hyv : (UInt8.ofNat y).toNat = y := by rw [UInt8.toNat_ofNat', Nat.mod_eq_of_lt (by omega)]
    have hinj : UInt8.ofNat x = UInt8.ofNat y ↔ x = y := ⟨fun e => by rw [← hxv, ← hyv, e], fun e => by rw [e]⟩
    constructor
    · rcases Nat.lt_trichotomy x y with hlt | heq | hgt
      · have : x * P + m % P < y * P + n % P := by
          have : (x + 1) * P ≤ y * P := Nat.mul_le_mul_right P hlt
          rw [Nat.succ_mul] at this; omega
        have hl : UInt8.ofNat x < UInt8.ofNat y := by rw [UInt8.lt_iff_toNat_lt, hxv, hyv]; exact hlt
        rw [Op.bytesLess, decide_eq_true hl, decide_eq_true this, Bool.true_or]
      · subst heq
        have hl : ¬ UInt8.ofNat x < UInt8.ofNat x := by rw [UInt8.lt_iff_toNat_lt]; omega
        rw [Op.bytesLess, decide_eq_false hl, Bool.false_or, beq_self_eq_true, Bool.true_and, h1]
        congr 1
        exact propext ⟨fun h => by omega, fun h => by omega⟩
      · have : ¬ x * P + m % P < y * P + n % P := by
          have : (y + 1) * P ≤ x * P := Nat.mul_le_mul_right P hgt
          rw [Nat.succ_mul] at this; omega
        have hl : ¬ UInt8.ofNat x < UInt8.ofNat y := by rw [UInt8.lt_iff_toNat_lt, hxv, hyv]; omega
        have hne : ¬ UInt8.ofNat x = UInt8.ofNat y := by rw [hinj]; omega
        rw [Op.bytesLess, decide_eq_false hl, decide_eq_false this, beq_eq_false_iff_ne.2 hne]
        rfl
    · rw [List.cons.injEq, hinj, h2]
      constructor
      · rintro ⟨rfl, h⟩; rw [h]
      · intro h
        have e1 : x = y := by
          rcases Nat.lt_trichotomy x y with hlt | heq | hgt
          · have : (x + 1) * P ≤ y * P := Nat.mul_le_mul_right P hlt
            rw [Nat.succ_mul] at this; omega
          · exact heq
          · have : (y + 1) * P ≤ x * P := Nat.mul_le_mul_right P hgt
            rw [Nat.succ_mul] at this; omega
        subst e1
        exact ⟨rfl, by omega⟩
theorem put1_any (w : World) (K x : Int) (hK : 1 ≤ K ∧ K ≤ 8) (hx : (Lit.int .i64 x).wf = true) :
    ∀ W, Below w.heap.size w W → Calls Tryz.prog 100 #[.int .i64 K, .slice (some ⟨W.heap.size, 0, none⟩) 1 1] (W.alloc (.cells #[.int .i64 x] 3)) fun e w' => e = .returned (.string ⟨(putL K [x]).toArray⟩) ∧ Below w.heap.size w w' := fun W hW => by
  have hb : Below w.heap.size w (W.alloc (.cells #[.int .i64 x] 3)) := hW.alloc hW.size _
  refine (put_any K (some ⟨W.heap.size, 0, none⟩) [x] 1 _ (by omega) (by intro n hn; simp at hn; subst hn; exact hx) (by simp) (one_int W x _)).mono fun e w' h => ⟨h.1, hb.trans (h.2.mono hb.size)⟩
theorem put2_any (w : World) (K x y : Int) (hK : 1 ≤ K ∧ K ≤ 8) (hx : (Lit.int .i64 x).wf = true) (hy : (Lit.int .i64 y).wf = true) :
    ∀ W, Below w.heap.size w W → Calls Tryz.prog 100 #[.int .i64 K, .slice (some ⟨W.heap.size, 0, none⟩) 2 2] (W.alloc (.cells #[.int .i64 x, .int .i64 y] 3)) fun e w' => e = .returned (.string ⟨(putL K [x, y]).toArray⟩) ∧ Below w.heap.size w w' := fun W hW => by
  have hb : Below w.heap.size w (W.alloc (.cells #[.int .i64 x, .int .i64 y] 3)) := hW.alloc hW.size _
  refine (put_any K (some ⟨W.heap.size, 0, none⟩) [x, y] 2 _ (by omega) (by intro n hn; simp at hn; rcases hn with rfl | rfl <;> assumption) (by simp) (two_ints W x y _)).mono fun e w' h => ⟨h.1, hb.trans (h.2.mono hb.size)⟩

theorem putL_one (k : Nat) (x : Int) (h1 : 1 ≤ k) (h8 : k ≤ 8) : putL (k : Int) [x] = if fitsN k x then be k x.toNat else [] := by
  unfold putL fitsL
  simp [show (1 : Int) ≤ k from by omega, show (k : Int) ≤ 8 from by omega]
theorem putL_two (k : Nat) (x y : Int) (h1 : 1 ≤ k) (h8 : k ≤ 8) : putL (k : Int) [x, y] = if fitsN k x && fitsN k y then be k x.toNat ++ be k y.toNat else [] := by
  unfold putL fitsL
  simp [show (1 : Int) ≤ k from by omega, show (k : Int) ≤ 8 from by omega]

theorem cat_bytes (x y : List UInt8) : x ++ y = (ByteArray.mk x.toArray ++ ByteArray.mk y.toArray).toList := by
  have : (ByteArray.mk x.toArray ++ ByteArray.mk y.toArray).data = (x ++ y).toArray := by
    simp [ByteArray.data_append]
  generalize (ByteArray.mk x.toArray ++ ByteArray.mk y.toArray) = b at this
  obtain ⟨d⟩ := b
  simp at this
  subst this
  simp
theorem fitsN_parts {k : Nat} {x : Int} (h : fitsN k x = true) : 0 ≤ x ∧ x.toNat < 256 ^ k := by
  unfold fitsN at h
  simpa using h
end Go.Proofs.YtkemhkmabbladaaGreatDoor

namespace Go.Proofs.YtkemhkmabbladaaGreatDoor
open Go.RowKit

/-- The number that bytes are, the highest first. -/
def beVal (l : List UInt8) : Nat := l.foldl (fun n c => n * 256 + c.toNat) 0
theorem beVal_snoc (l : List UInt8) (c : UInt8) : beVal (l ++ [c]) = beVal l * 256 + c.toNat := by simp [beVal]
theorem fold_lt : ∀ (l : List UInt8) (n : Nat), l.foldl (fun n c => n * 256 + c.toNat) n < (n + 1) * 256 ^ l.length
  | [], n => by simp
  | c :: l, n => by
    rw [List.foldl_cons, List.length_cons, Nat.pow_succ]
    have h := fold_lt l (n * 256 + c.toNat)
    have hc := c.toNat_lt
    have h2 : (n * 256 + c.toNat + 1) * 256 ^ l.length ≤ (n * 256 + 256) * 256 ^ l.length := Nat.mul_le_mul_right _ (by omega)
    have h3 : (n * 256 + 256) * 256 ^ l.length = (n + 1) * (256 ^ l.length * 256) := by
      rw [show n * 256 + 256 = (n + 1) * 256 from by omega, Nat.mul_assoc, Nat.mul_comm 256]
    omega
theorem beVal_lt (l : List UInt8) : beVal l < 256 ^ l.length := by
  have := fold_lt l 0
  simpa [beVal] using this

theorem wrapU64 (n : Nat) (h : n < 18446744073709551616) : IntKind.u64.wrap (n : Int) = n := by
  unfold IntKind.wrap
  simp [IntKind.bits, IntKind.signed]
  omega
theorem ofIntU64 (n : Nat) (h : n < 18446744073709551616) : (BitVec.ofInt 64 (n : Int)).toNat = n := by
  rw [BitVec.toNat_ofInt]; simp; omega
theorem or_byte (V : Nat) (c : UInt8) (h : V < 72057594037927936) : bits BinOp.or IntKind.u64 ((V : Int) * 256) (IntKind.u64.wrap (c.toNat : Int)) = ((V * 256 + c.toNat : Nat) : Int) := by
  have hc := c.toNat_lt
  rw [show (V : Int) * 256 = ((V * 256 : Nat) : Int) from by simp, wrapU64 _ (by omega)]
  show IntKind.u64.wrap (((BitVec.ofInt 64 ((V * 256 : Nat) : Int)) ||| (BitVec.ofInt 64 (c.toNat : Int))).toNat : Int) = _
  have e : ((BitVec.ofInt 64 ((V * 256 : Nat) : Int)) ||| (BitVec.ofInt 64 (c.toNat : Int))).toNat = V * 256 + c.toNat := by
    rw [BitVec.toNat_or, ofIntU64 _ (by omega), ofIntU64 _ (by omega)]
    have := Nat.two_pow_add_eq_or_of_lt (i := 8) (b := c.toNat) (by omega) V
    rw [show V * 256 = 2 ^ 8 * V from by omega]
    exact this.symm
  rw [e, wrapU64 _ (by omega)]
theorem IntKind.wrap_id' (V : Nat) (h : V < 9223372036854775808) : IntKind.i64.wrap (V : Int) = V := by
  unfold IntKind.wrap
  simp [IntKind.bits, IntKind.signed]
  omega

/-- What Take answers. -/
def takeOf (s : ByteArray) (size : Int) : Option (Nat × ByteArray) :=
  if 1 ≤ size ∧ size ≤ 8 ∧ size ≤ s.size ∧ beVal (s.data.toList.take size.toNat) ≤ 9223372036854775807 then some (beVal (s.data.toList.take size.toNat), s.extract size.toNat s.size) else none
def takeVal (s : ByteArray) (size : Int) : Value :=
  match takeOf s size with
  | some (n, r) => .tuple #[.int .i64 n, .string r, .bool true]
  | none => .tuple #[.int .i64 0, .string s, .bool false]

theorem takeVal_some {s : ByteArray} {size : Int} (h : 1 ≤ size ∧ size ≤ 8 ∧ size ≤ s.size ∧ beVal (s.data.toList.take size.toNat) ≤ 9223372036854775807) :
    takeVal s size = .tuple #[.int .i64 (beVal (s.data.toList.take size.toNat)), .string (s.extract size.toNat s.size), .bool true] := by
  unfold takeVal takeOf; rw [if_pos h]
theorem takeVal_none {s : ByteArray} {size : Int} (h : ¬ (1 ≤ size ∧ size ≤ 8 ∧ size ≤ s.size ∧ beVal (s.data.toList.take size.toNat) ≤ 9223372036854775807)) :
    takeVal s size = .tuple #[.int .i64 0, .string s, .bool false] := by
  unfold takeVal takeOf; rw [if_neg h]

set_option maxHeartbeats 1000000 in
theorem take_any (s : ByteArray) (size : Int) (w : World) (hsz : -9223372036854775808 ≤ size ∧ size ≤ 9223372036854775807) (hs : s.size ≤ 140737488355328) :
    Calls Tryz.prog 67 #[.string s, .int .i64 size] w fun e w' => e = .returned (takeVal s size) ∧ Below w.heap.size w w' := by
  by_cases h1 : 1 ≤ size
  · by_cases h8 : size ≤ 8
    · by_cases hl : size ≤ s.size
      · obtain ⟨k, rfl⟩ := Int.eq_ofNat_of_zero_le (a := size) (by omega)
        have hk1 : 1 ≤ k := by omega
        have hk8 : k ≤ 8 := by omega
        have hks : k ≤ s.size := by omega
        go_enter Tryz.func67, Tryz.ntmps67
        go_wp2
        go_loop [7, 8, 23] (fun n _ r => ∃ (j V : Nat), j ≤ k ∧ r = .int .i64 j ∧ n = .int .u64 V ∧ Hid (V = beVal (s.data.toList.take j))) (fun _ _ i => k - (intOf i).toNat)
        case atStart => exact ⟨0, 0, Nat.zero_le _, rfl, rfl, by simp [Hid, beVal]⟩
        case round =>
          obtain ⟨j, V, hj, rfl, rfl, hv⟩ := hrel
          by_cases hlt : j < k
          · have hjs : j < s.size := by omega
            have HS := Lib.hid (take_snoc s j hjs)
            have hV : V < 72057594037927936 := by
              have h1 := beVal_lt (s.data.toList.take j)
              rw [← hv.out] at h1
              have h2 : (s.data.toList.take j).length ≤ 7 := by rw [List.length_take]; omega
              have h3 : 256 ^ (s.data.toList.take j).length ≤ 256 ^ 7 := Nat.pow_le_pow_right (by omega) h2
              omega
            have HO := Lib.hid (or_byte V s[j] hV)
            go_wp2
            go_round
            case rel => exact ⟨j + 1, V * 256 + s[j].toNat, by omega, by go_num, by rw [HO.out], by rw [Hid, HS.out, beVal_snoc, hv.out]⟩
            case measure => simp [intOf]; omega
          · have hjk : j = k := by omega
            subst hjk
            have hV : V < 18446744073709551616 := by
              have h1 := beVal_lt (s.data.toList.take j)
              rw [← hv.out] at h1
              have h2 : (s.data.toList.take j).length ≤ 8 := by rw [List.length_take]; omega
              have h3 : 256 ^ (s.data.toList.take j).length ≤ 256 ^ 8 := Nat.pow_le_pow_right (by omega) h2
              omega
            by_cases hbig : V ≤ 9223372036854775807
            · have hcv : IntKind.i64.wrap (V : Int) = V := IntKind.wrap_id' V (by omega)
              go_wp2
              go_quiet (fail)
              go_wp2
              go_ret3
              have htk : takeVal s (j : Int) = .tuple #[.int .i64 V, .string (s.extract j s.size), .bool true] := by
                rw [takeVal_some (by rw [Int.toNat_natCast, ← hv.out]; exact ⟨h1, h8, hl, hbig⟩), Int.toNat_natCast, ← hv.out]
              exact ⟨by rw [htk]; rfl, below_drewN (Below.refl _ _) _⟩
            · go_wp2
              go_ret3
              have htk := takeVal_none (s := s) (size := (j : Int)) (by rw [Int.toNat_natCast, ← hv.out]; intro h; exact hbig h.2.2.2)
              exact ⟨by rw [htk]; rfl, Below.refl _ _⟩
      · have htk := Lib.hid (takeVal_none (s := s) (size := size) (fun h => hl h.2.2.1))
        go_enter Tryz.func67, Tryz.ntmps67
        go_wp2
        go_ret3
        exact ⟨by rw [htk.out]; rfl, Below.refl _ _⟩
    · have htk := Lib.hid (takeVal_none (s := s) (size := size) (fun h => h8 h.2.1))
      go_enter Tryz.func67, Tryz.ntmps67
      go_wp2
      go_ret3
      exact ⟨by rw [htk.out]; rfl, Below.refl _ _⟩
  · have htk := Lib.hid (takeVal_none (s := s) (size := size) (fun h => h1 h.1))
    go_enter Tryz.func67, Tryz.ntmps67
    go_wp2
    go_ret3
    exact ⟨by rw [htk.out]; rfl, Below.refl _ _⟩
theorem fold_from : ∀ (l : List UInt8) (n : Nat), l.foldl (fun n c => n * 256 + c.toNat) n = n * 256 ^ l.length + beVal l
  | [], n => by simp [beVal]
  | c :: l, n => by
    unfold beVal
    rw [List.foldl_cons, List.foldl_cons, List.length_cons, fold_from l (n * 256 + c.toNat), fold_from l (0 * 256 + c.toNat), Nat.pow_succ, Nat.add_mul, Nat.add_mul,
      Nat.mul_assoc, Nat.mul_comm 256, Nat.zero_mul]
    omega
theorem beVal_cons (c : UInt8) (l : List UInt8) : beVal (c :: l) = c.toNat * 256 ^ l.length + beVal l := by
  have := fold_from l c.toNat
  rw [← this]; simp [beVal]
theorem beVal_be (k n : Nat) : beVal (be k n) = n % 256 ^ k := by
  induction k with
  | zero => simp [be, beVal, Nat.mod_one]
  | succ k ih =>
    rw [be_succ, beVal_cons, be_len, ih, mod_split, UInt8.toNat_ofNat', Nat.mod_eq_of_lt (a := n / 256 ^ k % 256) (by omega)]

theorem cat_list (x : List UInt8) (m : ByteArray) : (ByteArray.mk x.toArray ++ m).data.toList = x ++ m.data.toList := by
  simp [ByteArray.data_append]
end Go.Proofs.YtkemhkmabbladaaGreatDoor
