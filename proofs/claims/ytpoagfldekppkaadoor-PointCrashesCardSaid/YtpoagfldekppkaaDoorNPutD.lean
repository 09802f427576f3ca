/-
  THE CONTRACTS OF nums.fits AND nums.Put: numbers laid, the highest byte first.
-/
import Derived.Test.YtpoagfldekppkaaDoorNWordsD
namespace Go.Proofs.YtpoagfldekppkaaDoor
open Go.RowKit

/-- A number in k bytes, the highest first. -/
def be (k : Nat) (n : Nat) : List UInt8 := (List.range k).map fun i => UInt8.ofNat (n / 256 ^ (k - 1 - i) % 256)
def fitsN (k : Nat) (n : Int) : Bool := decide (0 ≤ n) && decide (n.toNat < 256 ^ k)
def fitsL (size : Int) (l : List Int) : Bool := decide (1 ≤ size) && decide (size ≤ 8) && l.all (fitsN size.toNat)
def putL (size : Int) (l : List Int) : List UInt8 := if fitsL size l then l.flatMap fun n => be size.toNat n.toNat else []

theorem fits_shift (k : Nat) (n : Int) (h0 : 0 ≤ n) : (n / 2 ^ (8 * k) != 0) = !decide (n.toNat < 256 ^ k) := by
  obtain ⟨m, rfl⟩ := Int.eq_ofNat_of_zero_le h0
  rw [Int.toNat_natCast]
  have e2 : (2 : Int) ^ (8 * k) = ((256 ^ k : Nat) : Int) := by
    rw [Int.pow_mul]; simp
  rw [e2]
  have hp : 0 < 256 ^ k := Nat.pow_pos (by omega)
  rw [Bool.eq_iff_iff]
  simp only [bne_iff_ne, ne_eq, Bool.not_eq_true', decide_eq_false_iff_not]
  have : ((m : Int) / ((256 ^ k : Nat) : Int)) = ((m / 256 ^ k : Nat) : Int) := by simp
  rw [this]
  constructor
  · intro h hlt
    exact h (by rw [Nat.div_eq_of_lt hlt]; rfl)
  · intro h h2
    have h3 : m / 256 ^ k = 0 := by omega
    exact h ((Nat.div_eq_zero_iff_lt hp).1 h3)

set_option maxHeartbeats 400000 in
theorem fits_any (size : Int) (a : Option Addr) (l : List Int) (cap : Nat) (w : World) (hsz : -9223372036854775808 ≤ size ∧ size ≤ 9223372036854775807) (hw : Ints64 l) (hn : l.length ≤ maxLen) (ha : IntsAt w a l) :
    Calls Tryd.prog 54 #[.int .i64 size, .slice a l.length cap] w fun e w' => e = .returned (.bool (fitsL size l)) ∧ w = w' := by
  unfold maxLen at hn
  obtain ⟨hs1, hs2⟩ := hsz
  have HA := Lib.hid ha; clear ha
  have HW := Lib.hid hw; clear hw
  by_cases h1 : 1 ≤ size
  · by_cases h8 : size ≤ 8
    · obtain ⟨k, rfl⟩ := Int.eq_ofNat_of_zero_le (a := size) (by omega)
      have hk8 : k ≤ 8 := by omega
      have HD : Hid (fitsL (k : Int) l = l.all (fitsN k)) := by
        rw [Hid]; unfold fitsL; rw [Int.toNat_natCast]; simp [h1, h8]
      go_enter Tryd.func54, Tryd.ntmps54
      go_wp2
      go_loop [15] (fun i => ∃ j : Nat, j ≤ l.length ∧ i = .int .i64 j ∧ Hid ((l.take j).all (fitsN k) = true)) (fun i => l.length - (intOf i).toNat)
      case atStart => exact ⟨0, Nat.zero_le _, rfl, rfl⟩
      case round =>
        obtain ⟨j, hj, rfl, hall⟩ := hrel
        by_cases hlt : j < l.length
        · obtain ⟨b, off, rfl, hc⟩ := HA.out.cell hlt
          have hbd := wf_getD HW.out j
          have H1 := Lib.hid (take_one l j hlt)
          have hmem : l.getD j 0 ∈ l := by rw [List.getD_eq_getElem?_getD, List.getElem?_eq_getElem hlt]; exact List.getElem_mem _
          obtain ⟨c, hcc⟩ : ∃ c, c = l.getD j 0 := ⟨_, rfl⟩
          rw [← hcc] at hc hbd H1 hmem
          have HM := Lib.hid hmem; clear hmem hcc
          by_cases hneg : c < 0
          · go_wp2
            go_ret
            exact ⟨ret_bool (by
              rw [HD.out, eq_comm, List.all_eq_false]
              exact ⟨c, HM.out, by unfold fitsN; simp; intro h; omega⟩), rfl⟩
          · have hge : 0 ≤ c := by omega
            have hsh := fits_shift k c hge
            by_cases hf : c.toNat < 256 ^ k
            · rw [show (!decide (c.toNat < 256 ^ k)) = false from by simp [hf]] at hsh
              have HFt : Hid (fitsN k c = true) := by rw [Hid]; unfold fitsN; simp [hge, hf]
              clear hf
              go_wp2
              go_round
              case rel => exact ⟨j + 1, by omega, by go_num, by rw [Hid, H1.out, List.all_append, hall.out]; simp [HFt.out]⟩
              case measure => simp [intOf]; omega
            · rw [show (!decide (c.toNat < 256 ^ k)) = true from by simp [hf]] at hsh
              have HFt : Hid (fitsN k c = false) := by rw [Hid]; unfold fitsN; simp [hf]
              clear hf
              go_wp2
              go_ret
              exact ⟨ret_bool (by rw [HD.out, eq_comm, List.all_eq_false]; exact ⟨c, HM.out, by rw [HFt.out]; simp⟩), rfl⟩
        · go_wp2
          go_ret
          exact ⟨ret_bool (by rw [HD.out, ← hall.out, List.take_of_length_le (by omega)]), rfl⟩
    · have HD : Hid (fitsL size l = false) := by rw [Hid]; unfold fitsL; simp [h8]
      go_enter Tryd.func54, Tryd.ntmps54
      go_wp2
      go_ret
      exact ⟨ret_bool HD.out.symm, rfl⟩
  · have HD : Hid (fitsL size l = false) := by rw [Hid]; unfold fitsL; simp [h1]
    go_enter Tryd.func54, Tryd.ntmps54
    go_wp2
    go_ret
    exact ⟨ret_bool HD.out.symm, rfl⟩

/-! ### the bytes -/
def byteVals (l : List UInt8) : List Value := l.map fun c => Value.int .u8 (c.toNat : Int)
theorem be_len (k n : Nat) : (be k n).length = k := by simp [be]
theorem be_take (k n j : Nat) (h : j < k) : (be k n).take (j + 1) = (be k n).take j ++ [UInt8.ofNat (n / 256 ^ (k - 1 - j) % 256)] := by
  rw [List.take_succ_eq_append_getElem (by rw [be_len]; exact h)]
  simp [be]
theorem byte_val (c : Int) (k j : Nat) (h0 : 0 ≤ c) (_h : j < k) : c / 2 ^ (8 * (k - 1 - j)) % 256 = ((UInt8.ofNat (c.toNat / 256 ^ (k - 1 - j) % 256)).toNat : Int) := by
  obtain ⟨m, rfl⟩ := Int.eq_ofNat_of_zero_le h0
  rw [Int.toNat_natCast]
  have e2 : (2 : Int) ^ (8 * (k - 1 - j)) = ((256 ^ (k - 1 - j) : Nat) : Int) := by
    rw [Int.pow_mul]; simp
  rw [e2, UInt8.toNat_ofNat', Nat.mod_eq_of_lt (by omega)]
  simp
def flatBe (k : Nat) (l : List Int) : List UInt8 := l.flatMap fun n => be k n.toNat
theorem flatBe_len (k : Nat) : ∀ l, (flatBe k l).length = k * l.length
  | [] => by simp [flatBe]
  | n :: l => by
    have := flatBe_len k l
    unfold flatBe at this ⊢
    rw [List.flatMap_cons, List.length_append, be_len, this, List.length_cons, Nat.mul_succ]; omega
theorem flatBe_take (k : Nat) (l : List Int) (j : Nat) (h : j < l.length) : flatBe k (l.take (j + 1)) = flatBe k (l.take j) ++ be k (l.getD j 0).toNat := by
  rw [take_one l j h]; simp [flatBe]

theorem infoB : (Tryd.prog.info? 5).map (fun i => (i.zero, i.size, i.bytes)) = some (some (.int .u8 0), 1, 1) := by kernel_rfl

/-- string(b) of a row of the call's own. -/
theorem bytes_str {w : World} {B : Nat} {v : Value} {l : List UInt8} (h : w.ownsRow B 5 1 v l.length (byteVals l)) :
    (convert 79 9 v).run Tryd.prog w = .ok (.string ⟨l.toArray⟩) w := by
  rcases h.2 with ⟨hv, h0⟩ | ⟨g, c, cur, hv, _⟩
  · have : l = [] := List.length_eq_zero_iff.1 h0
    subst this
    rw [hv]
    exact run_convert_bytes_nil w 79 5 Tryd.underlying79 Tryd.underlying5 0 0 9 Tryd.underlying9
  · subst hv
    refine run_convert_bytes_back w 79 9 5 ⟨g, 0, none⟩ c l Tryd.underlying79 Tryd.underlying5 Tryd.underlying9 fun j hj => ?_
    have e : (⟨g, 0, none⟩ : Addr).add j = ⟨g, j, none⟩ := by unfold Addr.add; split <;> simp_all
    rw [e, h.cellAt j (by omega)]
    unfold byteVals
    rw [List.getElem?_map, List.getElem?_eq_getElem hj]; rfl

set_option maxHeartbeats 1000000 in
theorem put_any (size : Int) (a : Option Addr) (l : List Int) (cap : Nat) (w : World) (hsz : -9223372036854775808 ≤ size ∧ size ≤ 9223372036854775807) (hw : Ints64 l) (hn : l.length ≤ 1000) (ha : IntsAt w a l) :
    Calls Tryd.prog 37 #[.int .i64 size, .slice a l.length cap] w fun e w' => e = .returned (.string ⟨(putL size l).toArray⟩) ∧ Below w.heap.size w w' := by
  obtain ⟨i0, hi, hz0, hz1, hz2⟩ := info_parts infoB
  have HFT := Lib.hid (fits_any size a l cap w hsz hw (by unfold maxLen; omega) ha)
  by_cases hfit : fitsL size l = true
  · rw [hfit] at HFT
    have hfit0 := hfit
    unfold fitsL at hfit
    simp only [Bool.and_eq_true, decide_eq_true_iff] at hfit
    obtain ⟨⟨h1, h8⟩, hall⟩ := hfit
    obtain ⟨k, rfl⟩ := Int.eq_ofNat_of_zero_le (a := size) (by omega)
    have HPL : Hid (putL (k : Int) l = flatBe k l) := by rw [Hid]; unfold putL flatBe; rw [if_pos hfit0]; rfl
    rw [Int.toNat_natCast] at hall
    have HALL := Lib.hid hall
    have HA := Lib.hid ha
    clear ha hall hfit0 hw hsz
    go_enter Tryd.func37, Tryd.ntmps37
    go_wp2_with fail
    refine HFT.out.mono ?_
    rintro e w1 ⟨rfl, rfl⟩
    have hmle : k * l.length ≤ 8000 := by
      have : k ≤ 8 := by omega
      exact Nat.le_trans (Nat.mul_le_mul this hn) (by omega)
    obtain ⟨M, hM⟩ : ∃ M, M = k * l.length := ⟨_, rfl⟩
    have hm1 : (k : Int) * (l.length : Int) = (M : Int) := by rw [hM]; simp
    rw [← hM] at hmle
    have HM := Lib.hid hM; clear hM
    go_wp2_with (at_make; refine wpList_make_own _ rfl _ _ 79 rfl w.heap.size 5 i0 (.int .u8 0) 1 Tryd.underlying79 hi hz0 hz1 _ _ _ M rfl rfl (by omega) ?b2 ?b3 (Nat.le_refl _) ?_)
    case b2 => rw [hz2]; omega
    case b3 => unfold maxLen; omega
    · intro w0 hown0 hgrow0
      have hb0 : Below w.heap.size w w0 := (Below.refl _ w).grown hgrow0 (Nat.le_refl _) (fun k hk => by cases hk)
      have HO0 := Lib.hid hown0; clear hown0 hgrow0
      go_wp2
      go_loopw [5, 20] (fun v i wr => ∃ j : Nat, j ≤ l.length ∧ i = .int .i64 j ∧ Hid (wr.ownsRow w.heap.size 5 1 v (flatBe k (l.take j)).length (byteVals (flatBe k (l.take j)))) ∧ Below w.heap.size w wr) (fun _ i _ => l.length - (intOf i).toNat)
      case atStart => exact ⟨0, Nat.zero_le _, rfl, HO0.out, hb0⟩
      case round =>
        obtain ⟨j, hj, rfl, hown, hbr⟩ := hrel
        by_cases hlt : j < l.length
        · obtain ⟨b, off, rfl, hc0⟩ := HA.out.cell hlt
          have hc := (hbr.cell (p := ⟨b, off + j, none⟩) (cell_lt hc0)).trans hc0
          clear hc0
          have hmem : l.getD j 0 ∈ l := by rw [List.getD_eq_getElem?_getD, List.getElem?_eq_getElem hlt]; exact List.getElem_mem _
          have hfit1 := List.all_eq_true.1 HALL.out _ hmem
          have HT := Lib.hid (flatBe_take k l j hlt)
          have hfl := flatBe_len k (l.take j)
          have hfl2 : (l.take j).length ≤ 1000 := by rw [List.length_take]; omega
          have hfl3 : k * (l.take j).length ≤ 8000 := Nat.le_trans (Nat.mul_le_mul (show k ≤ 8 by omega) hfl2) (by omega)
          obtain ⟨F, hF⟩ : ∃ F, F = flatBe k (l.take j) := ⟨_, rfl⟩
          obtain ⟨c, hcc⟩ : ∃ c, c = l.getD j 0 := ⟨_, rfl⟩
          rw [← hF] at hfl hown HT
          rw [← hcc] at hc hfit1 HT
          have hc0 : 0 ≤ c := by unfold fitsN at hfit1; simp at hfit1; exact hfit1.1
          have hFl : F.length ≤ 8000 := by omega
          clear hF hcc hmem hfit1 hfl hfl2 hfl3
          go_wp2
          go_loopw [5, 25] (fun v i wr => ∃ x : Nat, x ≤ k ∧ i = .int .i64 x ∧ Hid (wr.ownsRow w.heap.size 5 1 v (F ++ (be k c.toNat).take x).length (byteVals (F ++ (be k c.toNat).take x))) ∧ Below w.heap.size w wr) (fun _ i _ => k - (intOf i).toNat)
          case atStart => exact ⟨0, Nat.zero_le _, rfl, by rw [List.take_zero, List.append_nil]; exact hown, hbr⟩
          case round =>
            obtain ⟨x, hx, rfl, hown2, hbr2⟩ := hrel
            have hsz2 := hbr2.size
            by_cases hxk : x < k
            · have hTl : ((be k c.toNat).take x).length ≤ 8 := by rw [List.length_take, be_len]; omega
              have HBT := Lib.hid (be_take k c.toNat x hxk)
              have HBV := Lib.hid (byte_val c k x hc0 hxk)
              obtain ⟨T, hT⟩ : ∃ T, T = (be k c.toNat).take x := ⟨_, rfl⟩
              rw [← hT] at HBT hown2 hTl
              obtain ⟨y, hy⟩ : ∃ y, y = UInt8.ofNat (c.toNat / 256 ^ (k - 1 - x) % 256) := ⟨_, rfl⟩
              rw [← hy] at HBT HBV
              obtain ⟨d, hd⟩ : ∃ d : Nat, d = k - 1 - x := ⟨_, rfl⟩
              rw [← hd] at HBV
              have hd2 : (k : Int) - 1 - (x : Int) = (d : Int) := by omega
              have hbv := HBV.out
              clear hT hy HBV
              have hd7 : d ≤ 7 := by omega
              have HD := Lib.hid hd; clear hd
              have hlF : (F ++ T).length ≤ 9000 := by rw [List.length_append]; omega
              have hown3 := hown2.out
              obtain ⟨FT, hFT⟩ : ∃ FT, FT = F ++ T := ⟨_, rfl⟩
              rw [← hFT] at hown3 hlF
              have HFTe := Lib.hid hFT; clear hFT hown2
              go_wp2_with (at_builtin; refine wpList_append_own _ rfl _ _ 79 rfl w.heap.size 5 i0 (.int .u8 0) 1 1 Tryd.underlying79 hi hz0 hz1 hz2 rfl (by decide) _ _ _ rfl (hown3.alloc _) ⟨wr.heap.size, 0, none⟩ 1 1 [.int .u8 (y.toNat : Int)] rfl rfl ?c1 ?c2 ?c3 ?c4 ?c5 ?_)
              case c1 =>
                intro j u hj
                match j, hj with
                | 0, hj => simp at hj; subst hj; simp [Addr.add]
              case c2 => intro u hu; simp at hu; subst hu; rfl
              case c3 => unfold maxLen; omega
              case c4 => omega
              case c5 => simp; omega
              · intro v' w1 hown' hgrow _
                have hbn : Below w.heap.size w w1 := (hbr2.alloc hsz2 _).grown hgrow (by simp; omega) (fun k hk => (hown3.lt k hk).1)
                have hbv2 : byteVals FT ++ [.int .u8 (y.toNat : Int)] = byteVals (FT ++ [y]) := by simp [byteVals]
                have hl2 : FT.length + 1 = (FT ++ [y]).length := by simp
                rw [hbv2, hl2, HFTe.out, List.append_assoc, ← HBT.out] at hown'
                have HON := Lib.hid hown'
                clear hown' hgrow hown3 hbv2 hl2
                go_wp2
                go_roundw
                case rel => exact ⟨x + 1, by omega, by go_num, HON.out, hbn⟩
                case measure => simp [intOf]; omega
            · have hfull : F ++ (be k c.toNat).take x = flatBe k (l.take (j + 1)) := by rw [HT.out, List.take_of_length_le (by rw [be_len]; omega)]
              rw [hfull] at hown2
              clear hfull
              go_wp2
              go_roundw
              case rel => exact ⟨j + 1, by omega, by go_num, hown2.out, hbr2⟩
              case measure => simp [intOf]; omega
        · have hfull : flatBe k (l.take j) = flatBe k l := by rw [List.take_of_length_le (by omega)]
          rw [hfull] at hown
          have kc := bytes_str hown.out
          go_wp2
          go_ret
          exact ⟨by rw [HPL.out]; rfl, hbr⟩
  · have hf : fitsL size l = false := by cases h : fitsL size l; rfl; exact absurd h hfit
    rw [hf] at HFT
    have HPL : Hid (putL size l = []) := by rw [Hid]; unfold putL; rw [if_neg hfit]
    clear hfit hf ha hw hsz
    go_enter Tryd.func37, Tryd.ntmps37
    go_wp2_with fail
    refine HFT.out.mono ?_
    rintro e w1 ⟨rfl, rfl⟩
    go_wp2
    go_ret
    exact ⟨by rw [HPL.out]; rfl, Below.refl _ _⟩
theorem be_succ (k n : Nat) : be (k + 1) n = UInt8.ofNat (n / 256 ^ k % 256) :: be k n := by
  unfold be
  rw [List.range_succ_eq_map, List.map_cons, List.map_map]
  congr 1
  apply List.map_congr_left
  intro i hi
  have hik : i < k := List.mem_range.1 hi
  simp only [Function.comp]
  rw [show k + 1 - 1 - (i + 1) = k - 1 - i from by omega]
theorem mod_split (k n : Nat) : n % 256 ^ (k + 1) = n / 256 ^ k % 256 * 256 ^ k + n % 256 ^ k := by
  rw [Nat.pow_succ, Nat.mod_mul, Nat.mul_comm (256 ^ k), Nat.add_comm]

theorem be_less : ∀ (k m n : Nat), Op.bytesLess (be k m) (be k n) = decide (m % 256 ^ k < n % 256 ^ k) ∧ (be k m = be k n ↔ m % 256 ^ k = n % 256 ^ k)
  | 0, m, n => by simp [be, Op.bytesLess, Nat.mod_one]
  | k + 1, m, n => by
    obtain ⟨h1, h2⟩ := be_less k m n
    rw [be_succ, be_succ, mod_split, mod_split]
    have hp : 0 < 256 ^ k := Nat.pow_pos (by omega)
    have r1 := Nat.mod_lt m hp
    have r2 := Nat.mod_lt n hp
    have d1 : m / 256 ^ k % 256 < 256 := Nat.mod_lt _ (by omega)
    have d2 : n / 256 ^ k % 256 < 256 := Nat.mod_lt _ (by omega)
    obtain ⟨x, hx⟩ : ∃ x, x = m / 256 ^ k % 256 := ⟨_, rfl⟩
    obtain ⟨y, hy⟩ : ∃ y, y = n / 256 ^ k % 256 := ⟨_, rfl⟩
    obtain ⟨P, hP⟩ : ∃ P, P = 256 ^ k := ⟨_, rfl⟩
    rw [← hx] at d1 ⊢
    rw [← hy] at d2 ⊢
    rw [← hP] at h1 h2 r1 r2 ⊢
    have hxv : (UInt8.ofNat x).toNat = x := by rw [UInt8.toNat_ofNat', Nat.mod_eq_of_lt (by omega)]
    have hyv : (UInt8.ofNat y).toNat = y := by rw [UInt8.toNat_ofNat', Nat.mod_eq_of_lt (by omega)]
    have hinj : UInt8.ofNat x = UInt8.ofNat y ↔ x = y := ⟨fun e => by rw [← hxv, ← hyv, e], fun e => by rw [e]⟩
    constructor
    · rcases Nat.lt_trichotomy x y with hlt | heq | hgt
      · have : x * P + m % P < y * P + n % P := by
          have : (x + 1) * P ≤ y * P := Nat.mul_le_mul_right P hlt
          rw [Nat.succ_mul] at this; omega
        have hl : UInt8.ofNat x < UInt8.ofNat y := by rw [UInt8.lt_iff_toNat_lt, hxv, hyv]; exact hlt
        rw [Op.bytesLess, decide_eq_true hl, decide_eq_true this, Bool.true_or]
      · subst heq
        have hl : ¬ UInt8.ofNat x < UInt8.ofNat x := by rw [UInt8.lt_iff_toNat_lt]; omega
        rw [Op.bytesLess, decide_eq_false hl, Bool.false_or, beq_self_eq_true, Bool.true_and, h1]
        congr 1
        exact propext ⟨fun h => by omega, fun h => by omega⟩
      · have : ¬ x * P + m % P < y * P + n % P := by
          have : (y + 1) * P ≤ x * P := Nat.mul_le_mul_right P hgt
          rw [Nat.succ_mul] at this; omega
        have hl : ¬ UInt8.ofNat x < UInt8.ofNat y := by rw [UInt8.lt_iff_toNat_lt, hxv, hyv]; omega
        have hne : ¬ UInt8.ofNat x = UInt8.ofNat y := by rw [hinj]; omega
        rw [Op.bytesLess, decide_eq_false hl, decide_eq_false this, beq_eq_false_iff_ne.2 hne]
        rfl
    · rw [List.cons.injEq, hinj, h2]
      constructor
      · rintro ⟨rfl, h⟩; rw [h]
      · intro h
        have e1 : x = y := by
          rcases Nat.lt_trichotomy x y with hlt | heq | hgt
          · have : (x + 1) * P ≤ y * P := Nat.mul_le_mul_right P hlt
            rw [Nat.succ_mul] at this; omega
          · exact heq
          · have : (y + 1) * P ≤ x * P := Nat.mul_le_mul_right P hgt
            rw [Nat.succ_mul] at this; omega
        subst e1
        exact ⟨rfl, by omega⟩
theorem put1_any (w : World) (K x : Int) (hK : 1 ≤ K ∧ K ≤ 8) (hx : (Lit.int .i64 x).wf = true) :
    ∀ W, Below w.heap.size w W → Calls Tryd.prog 37 #[.int .i64 K, .slice (some ⟨W.heap.size, 0, none⟩) 1 1] (W.alloc (.cells #[.int .i64 x] 3)) fun e w' => e = .returned (.string ⟨(putL K [x]).toArray⟩) ∧ Below w.heap.size w w' := fun W hW => by
  have hb : Below w.heap.size w (W.alloc (.cells #[.int .i64 x] 3)) := hW.alloc hW.size _
  refine (put_any K (some ⟨W.heap.size, 0, none⟩) [x] 1 _ (by omega) (by intro n hn; simp at hn; subst hn; exact hx) (by simp) (one_int W x _)).mono fun e w' h => ⟨h.1, hb.trans (h.2.mono hb.size)⟩
theorem put2_any (w : World) (K x y : Int) (hK : 1 ≤ K ∧ K ≤ 8) (hx : (Lit.int .i64 x).wf = true) (hy : (Lit.int .i64 y).wf = true) :
    ∀ W, Below w.heap.size w W → Calls Tryd.prog 37 #[.int .i64 K, .slice (some ⟨W.heap.size, 0, none⟩) 2 2] (W.alloc (.cells #[.int .i64 x, .int .i64 y] 3)) fun e w' => e = .returned (.string ⟨(putL K [x, y]).toArray⟩) ∧ Below w.heap.size w w' := fun W hW => by
  have hb : Below w.heap.size w (W.alloc (.cells #[.int .i64 x, .int .i64 y] 3)) := hW.alloc hW.size _
  refine (put_any K (some ⟨W.heap.size, 0, none⟩) [x, y] 2 _ (by omega) (by intro n hn; simp at hn; rcases hn with rfl | rfl <;> assumption) (by simp) (two_ints W x y _)).mono fun e w' h => ⟨h.1, hb.trans (h.2.mono hb.size)⟩

theorem putL_one (k : Nat) (x : Int) (h1 : 1 ≤ k) (h8 : k ≤ 8) : putL (k : Int) [x] = if fitsN k x then be k x.toNat else [] := by
  unfold putL fitsL
  simp [show (1 : Int) ≤ k from by omega, show (k : Int) ≤ 8 from by omega]
theorem putL_two (k : Nat) (x y : Int) (h1 : 1 ≤ k) (h8 : k ≤ 8) : putL (k : Int) [x, y] = if fitsN k x && fitsN k y then be k x.toNat ++ be k y.toNat else [] := by
  unfold putL fitsL
  simp [show (1 : Int) ≤ k from by omega, show (k : Int) ≤ 8 from by omega]

theorem cat_bytes (x y : List UInt8) : x ++ y = (ByteArray.mk x.toArray ++ ByteArray.mk y.toArray).toList := by
  have : (ByteArray.mk x.toArray ++ ByteArray.mk y.toArray).data = (x ++ y).toArray := by
    simp [ByteArray.data_append]
  generalize (ByteArray.mk x.toArray ++ ByteArray.mk y.toArray) = b at this
  obtain ⟨d⟩ := b
  simp at this
  subst this
  simp
theorem fitsN_parts {k : Nat} {x : Int} (h : fitsN k x = true) : 0 ≤ x ∧ x.toNat < 256 ^ k := by
  unfold fitsN at h
  simpa using h
end Go.Proofs.YtpoagfldekppkaaDoor
