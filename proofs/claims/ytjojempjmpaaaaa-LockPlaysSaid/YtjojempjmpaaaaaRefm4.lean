/-
  ref14: keys, rising, each once.
  ref14: Holds.
-/
import Derived.Test.YtjojempjmpaaaaaRefm3
import Derived.Test.YtjojempjmpaaaaaLkm11
namespace Go.Proofs.Ytjojempjmpaaaaa
open Go.RowKit
theorem ba_data14 {a b : ByteArray} : a.data.toList = b.data.toList ↔ a = b := ⟨fun h => data_inj h, fun h => by rw [h]⟩
theorem inK_at {k : List UInt8} : ∀ {L : List (List UInt8)} {at' : Nat}, at' ≤ L.length → (∀ m, m < at' → L.getD m [] < k) → (at' < L.length → ¬ L.getD at' [] < k) →
    inK k L = if at' < L.length ∧ L.getD at' [] = k then L else L.take at' ++ k :: L.drop at'
  | [], at', h, _, _ => by
    have : at' = 0 := by simpa using h
    subst this
    simp [inK]
  | x :: L, 0, _, _, h2 => by
    have hx := h2 (by simp)
    simp only [List.getD_eq_getElem?_getD, List.getElem?_cons_zero, Option.getD_some] at hx
    rw [inK, if_neg hx]
    by_cases e : x = k
    · rw [if_pos e, if_pos ⟨by simp, by simpa using e⟩]
    · rw [if_neg e, if_neg (fun q => e (by simpa using q.2))]; rfl
  | x :: L, at' + 1, h, h1, h2 => by
    have hx := h1 0 (by omega)
    simp only [List.getD_eq_getElem?_getD, List.getElem?_cons_zero, Option.getD_some] at hx
    rw [inK, if_pos hx]
    have ih := inK_at (k := k) (L := L) (at' := at') (by simpa using h) (fun m hm => by have := h1 (m + 1) (by omega); simpa using this) (fun hl => by have := h2 (by simpa using hl); simpa using this)
    rw [ih]
    by_cases e : at' < L.length ∧ L.getD at' [] = k
    · rw [if_pos e, if_pos ⟨by simpa using e.1, by simpa using e.2⟩]
    · rw [if_neg e, if_neg (fun q => e ⟨by simpa using q.1, by simpa using q.2⟩)]; rfl
theorem inAll_succ (ks : List (List UInt8)) (k : Nat) (h : k < ks.length) : inAll (ks.take (k + 1)) = inK (ks.getD k []) (inAll (ks.take k)) := by
  unfold inAll
  rw [List.take_succ_eq_append_getElem h, List.foldl_append, List.getD_eq_getElem?_getD, List.getElem?_eq_getElem h]
  rfl
/-- The row while its texts move one place on. -/
theorem move_one {L : List ByteArray} {j : Nat} (hj : j < L.length) (g : ByteArray) : (L.take (j + 1) ++ g :: L.drop (j + 1)).set (j + 1) (L.getD j ByteArray.empty) = L.take j ++ (L.getD j ByteArray.empty) :: L.drop j := by
  have hd : L.drop j = L.getD j ByteArray.empty :: L.drop (j + 1) := by
    rw [List.drop_eq_getElem_cons hj, List.getD_eq_getElem?_getD, List.getElem?_eq_getElem hj]; rfl
  have ht : L.take (j + 1) = L.take j ++ [L.getD j ByteArray.empty] := by
    rw [List.take_succ_eq_append_getElem hj, List.getD_eq_getElem?_getD, List.getElem?_eq_getElem hj]; rfl
  have hl : (L.take (j + 1)).length = j + 1 := by rw [List.length_take]; omega
  rw [List.set_append_right _ _ (by omega), hl, Nat.sub_self, List.set_cons_zero, ht, hd, List.append_assoc]
  rfl
theorem move_get {L : List ByteArray} {j : Nat} (hj : j < L.length) (g : ByteArray) : (L.take (j + 1) ++ g :: L.drop (j + 1)).getD j ByteArray.empty = L.getD j ByteArray.empty := by
  have hl : (L.take (j + 1)).length = j + 1 := by rw [List.length_take]; omega
  rw [List.getD_eq_getElem?_getD, List.getElem?_append_left (by omega), List.getElem?_take_of_lt (by omega), ← List.getD_eq_getElem?_getD]
theorem move_last {L : List ByteArray} {j : Nat} (hj : j ≤ L.length) (g k : ByteArray) : (L.take j ++ g :: L.drop j).set j k = L.take j ++ k :: L.drop j := by
  have hl : (L.take j).length = j := by rw [List.length_take]; omega
  rw [List.set_append_right _ _ (by omega), hl, Nat.sub_self, List.set_cons_zero]
theorem move_len {L : List ByteArray} {j : Nat} (hj : j ≤ L.length) (g : ByteArray) : (L.take j ++ g :: L.drop j).length = L.length + 1 := by
  rw [List.length_append, List.length_take, List.length_cons, List.length_drop]; omega
theorem ofB_get (l : List (List UInt8)) (m : Nat) (hm : m < l.length) : ((ofB l).getD m ByteArray.empty) = ⟨(l.getD m []).toArray⟩ := by
  unfold ofB
  rw [List.getD_eq_getElem?_getD, List.getElem?_map, List.getD_eq_getElem?_getD, List.getElem?_eq_getElem hm]; rfl
theorem lb_get (l : List ByteArray) (m : Nat) (hm : m < l.length) : ((lb l).getD m []) = (l.getD m ByteArray.empty).data.toList := by
  unfold lb
  rw [List.getD_eq_getElem?_getD, List.getElem?_map, List.getD_eq_getElem?_getD, List.getElem?_eq_getElem hm]; rfl
/-- A store into a row of texts of the call's own. -/
theorem rowS_set {W : World} {B g cap : Nat} {ts : List ByteArray} (h : RowS W B (.slice (some ⟨g, 0, none⟩) ts.length cap) ts) (j : Nat) (t : ByteArray) :
    RowS (W.setCell ⟨g, j, none⟩ (.string t)) B (.slice (some ⟨g, 0, none⟩) (ts.set j t).length cap) (ts.set j t) ∧ W.grownBy (W.setCell ⟨g, j, none⟩ (.string t)) (some g) := by
  obtain ⟨h1, h2⟩ := World.ownsRow.stored h j (.string t)
  refine ⟨?_, h2⟩
  unfold RowS
  rw [List.length_set, List.map_set]
  exact h1
/-- A row of texts: its slice, and what its cells hold. -/
theorem rowS_shape {W : World} {B : Nat} {v : Value} {ts : List ByteArray} (h : RowS W B v ts) : ∃ a c, v = .slice a ts.length c ∧ KeysAt W a ts ∧ (0 < ts.length → ∃ g, a = some ⟨g, 0, none⟩ ∧ ∀ i, W.frozen? ⟨g, i, none⟩ = false) := by
  rcases Nat.eq_zero_or_pos ts.length with h0 | h0
  · have : ts = [] := List.length_eq_zero_iff.1 h0
    subst this
    rcases h.2 with ⟨hv, _⟩ | ⟨g, cap, cur, hv, _⟩
    · exact ⟨none, 0, hv, .inl rfl, fun hh => by simp at hh⟩
    · exact ⟨_, cap, hv, .inl rfl, fun hh => by simp at hh⟩
  · obtain ⟨g, cap, hv, _, hc⟩ := h.cells h0
    subst hv
    exact ⟨_, cap, rfl, .inr ⟨g, 0, rfl, fun i hi => by rw [Nat.zero_add]; exact hc i hi⟩, fun _ => ⟨g, rfl, fun i => World.ownsRow.frozenAt h i⟩⟩
/-- Where a text stands, or would stand, in a row that rises. -/
structure AtIs (L : List ByteArray) (key : ByteArray) (m : Nat) : Prop where
  le : m ≤ L.length
  lo : ∀ j, j < m → (L.getD j ByteArray.empty).data.toList < key.data.toList
  hi : m < L.length → ¬ (L.getD m ByteArray.empty).data.toList < key.data.toList
theorem atIs_put {l : List (List UInt8)} {key : ByteArray} {m : Nat} (h : AtIs (ofB l) key m) : ofB (inK key.data.toList l) = if m < (ofB l).length ∧ (ofB l).getD m ByteArray.empty = key then ofB l else (ofB l).take m ++ key :: (ofB l).drop m := by
  have hle := h.le
  rw [ofB_len] at hle
  have hg : ∀ j, j < l.length → ((ofB l).getD j ByteArray.empty).data.toList = l.getD j [] := fun j hj => by rw [ofB_get l j hj]
  rw [inK_at hle (fun j hj => by have := h.lo j hj; rwa [hg j (by omega)] at this) (fun hm => by have := h.hi (by rw [ofB_len]; exact hm); rwa [hg m hm] at this)]
  by_cases e : m < l.length ∧ l.getD m [] = key.data.toList
  · rw [if_pos e, if_pos ⟨by rw [ofB_len]; exact e.1, by rw [← ba_data14, hg m e.1]; exact e.2⟩]
  · rw [if_neg e, if_neg (fun q => e ⟨by have := q.1; rwa [ofB_len] at this, by have := q.2; rw [← ba_data14, hg m (by have := q.1; rwa [ofB_len] at this)] at this; exact this⟩)]
    unfold ofB
    simp only [List.map_append, List.map_take, List.map_cons, List.map_drop]
theorem rowS_put {W : World} {B g cap n : Nat} {ts : List ByteArray} (h : RowS W B (.slice (some ⟨g, 0, none⟩) n cap) ts) (hn : ts.length = n) (j : Nat) (t : ByteArray) :
    RowS (W.setCell ⟨g, j, none⟩ (.string t)) B (.slice (some ⟨g, 0, none⟩) n cap) (ts.set j t) ∧ W.grownBy (W.setCell ⟨g, j, none⟩ (.string t)) (some g) := by
  subst hn
  have := rowS_set h j t
  rw [List.length_set] at this
  exact this
theorem rowS_at {W : World} {B g cap n : Nat} {ts : List ByteArray} (h : RowS W B (.slice (some ⟨g, 0, none⟩) n cap) ts) (hn : ts.length = n) (j : Nat) (hj : j < n) : W.cell? ⟨g, j, none⟩ = some (.string (ts.getD j ByteArray.empty)) ∧ ∀ i, W.frozen? ⟨g, i, none⟩ = false := by
  subst hn
  refine ⟨?_, fun i => World.ownsRow.frozenAt h i⟩
  rw [World.ownsRow.cellAt h j (by omega), List.getElem?_map, List.getD_eq_getElem?_getD, List.getElem?_eq_getElem hj]; rfl
theorem rowS_lt {W : World} {B g cap n : Nat} {ts : List ByteArray} (h : RowS W B (.slice (some ⟨g, 0, none⟩) n cap) ts) : B ≤ g := (World.ownsRow.lt h g rfl).1
section
variable {W : World}
set_option maxRecDepth 100000 in
set_option maxHeartbeats 8000000 in
theorem keys14_any (a : Option Addr) (l : List Wc) (c : Nat) (hl : l.length ≤ 40000) (hm : WcsAt W a l) :
    Calls Try.prog 50 #[.slice a l.length c] W fun e W' => ∃ v, e = .returned v ∧ RowS W' W.heap.size v (keysL (l.map (·.k))) ∧ Below W.heap.size W W' := by
  have HA := Lib.hid hm
  have hli : (l.length : Int) ≤ 40000 := by omega
  have HLN0 : Hid (∀ j, (ofB (inAll (lb ((l.map (·.k)).take j)))).length ≤ 40000) := fun j => by
    have := keysL_len ((l.map (·.k)).take j)
    unfold keysL at this
    rw [List.length_take, List.length_map] at this
    omega
  clear hm
  go_enter Try.func50, Try.ntmps50
  go_wp2
  go_loopw [3, 4] (fun v i wr => ∃ j : Nat, j ≤ l.length ∧ i = .int .i64 (j : Int) ∧ Hid (RowS wr W.heap.size v (ofB (inAll (lb ((l.map (·.k)).take j))))) ∧ Hid (Below W.heap.size W wr)) (fun _ i _ => l.length - (intOf i).toNat)
  case atStart => exact ⟨0, Nat.zero_le _, rfl, RowS.none _ _, Below.refl _ _⟩
  case round =>
    obtain ⟨k, hk, rfl, HR, HB⟩ := hrel
    rename World => wb
    by_cases hlt : k < l.length
    · have hki : (k : Int) < (l.length : Int) := by omega
      have hk0 : (0 : Int) ≤ (k : Int) := Int.natCast_nonneg _
      have HCELL : Hid (∀ X, Below W.heap.size W X → ∃ b off, a = some ⟨b, off, none⟩ ∧ X.cell? ⟨b, off + k * 3 + 1, none⟩ = some (.string l[k].k)) := fun X hX => by
        obtain ⟨b, off, e, _, k1, _⟩ := (HA.out.below hX).cell hlt
        exact ⟨b, off, e, k1⟩
      obtain ⟨bb, off, rfl, k1⟩ := HCELL.out wb HB.out
      have HC2 : Hid (∀ X, Below W.heap.size W X → X.cell? ⟨bb, off + k * 3 + 1, none⟩ = some (.string l[k].k)) := fun X hX => by
        obtain ⟨b, o, e, k2⟩ := HCELL.out X hX
        injection e with e
        injection e with e1 e2
        subst e1 e2
        exact k2
      have HNX : Hid (ofB (inAll (lb ((l.map (·.k)).take (k + 1)))) = ofB (inK l[k].k.data.toList (inAll (lb ((l.map (·.k)).take k))))) := by
        show ofB _ = _
        have e1 : ∀ n, lb ((l.map (·.k)).take n) = (lb (l.map (·.k))).take n := fun n => by unfold lb; rw [List.map_take]
        rw [e1, e1, inAll_succ _ k (by rw [lb_len, List.length_map]; exact hlt), lb_get _ k (by rw [List.length_map]; exact hlt), List.getD_eq_getElem?_getD, List.getElem?_map, List.getElem?_eq_getElem hlt]
        rfl
      have HLN := Lib.hid (HLN0.out k)
      have HLT := Lib.hid hlt
      clear HCELL
      generalize l[k].k = key at *
      obtain ⟨L, hL⟩ : ∃ x, x = inAll (lb ((l.map (·.k)).take k)) := ⟨_, rfl⟩
      rw [← hL] at HR HLN HNX
      clear hL
      have HPUT := Lib.hid (fun m (h : AtIs (ofB L) key m) => atIs_put h)
      obtain ⟨ts, hts⟩ : ∃ x, x = ofB L := ⟨_, rfl⟩
      rw [← hts] at HR HLN HPUT
      clear hts
      obtain ⟨va, vc, rfl, hka, _⟩ := rowS_shape HR.out
      have HKA := Lib.hid hka
      have HBW := Lib.hid (Below.refl wb.heap.size wb)
      clear hka k1
      go_upto_block 2 with fail
      go_cut [5] from 13 to 73 (fun s5 wx => ∃ m : Nat, s5 = .int .i64 m ∧ Hid (AtIs ts key m) ∧ Hid (Below wb.heap.size wb wx))
      case first =>
        go_wp2_with fail
        go_loopw [5] (fun at' wr => ∃ m : Nat, m ≤ ts.length ∧ at' = .int .i64 m ∧ Hid (∀ j, j < m → (ts.getD j ByteArray.empty).data.toList < key.data.toList) ∧ Hid (Below wb.heap.size wb wr)) (fun at' _ => ts.length - (intOf at').toNat)
        case atStart => exact ⟨0, Nat.zero_le _, rfl, fun j hj => by omega, HBW.out⟩
        case round =>
          obtain ⟨m, hm, rfl, HLO, HBX⟩ := hrel
          rename World => wx
          have hti : (ts.length : Int) ≤ 40000 := by have := HLN.out; omega
          have hm0 : (0 : Int) ≤ (m : Int) := Int.natCast_nonneg _
          have HBXW := Lib.hid (HB.out.trans (HBX.out.mono HB.out.size))
          have k1d := HC2.out wx HBXW.out
          have HBD := Lib.hid (fun n => below_drewN HBX.out n)
          have hcase : (∃ (g o2 : Nat) (x : ByteArray), va = some ⟨g, o2, none⟩ ∧ wx.cell? ⟨g, o2 + m, none⟩ = some (.string x) ∧ x = ts.getD m ByteArray.empty ∧ m < ts.length) ∨ ts.length ≤ m := by
            by_cases hmt : m < ts.length
            · rcases HKA.out with rfl | ⟨b, off, e, h⟩
              · simp at hmt
              · exact .inl ⟨b, off, _, e, keep_cell HBX.out (h m hmt), rfl, hmt⟩
            · exact .inr (by omega)
          rcases hcase with ⟨g, o2, x, rfl, c1d, hx, hmt⟩ | hmt
          · have hmi : (m : Int) < (ts.length : Int) := by omega
            have HX := Lib.hid hx
            have HMT := Lib.hid hmt
            clear hx
            have hbl := less_str x key
            by_cases hless : x.data.toList < key.data.toList
            · rw [decide_eq_true hless] at hbl
              have HLO2 : Hid (∀ j, j < m + 1 → (ts.getD j ByteArray.empty).data.toList < key.data.toList) := fun j hj => by
                rcases Nat.lt_or_ge j m with h | h
                · exact HLO.out j h
                · have : j = m := by omega
                  rw [this, ← HX.out]; exact hless
              clear hless
              go_upto_region 6 with fail
              go_quiet (fail)
              go_wp2
              go_roundw
              case rel => exact ⟨m + 1, HMT.out, by go_num, HLO2, HBD.out _⟩
              case measure => simp [intOf]; have := HMT.out; omega
            · rw [decide_eq_false hless] at hbl
              have HAT : Hid (AtIs ts key m) := ⟨hm, HLO.out, fun _ => by rw [← HX.out]; exact hless⟩
              clear hless HLO
              go_upto_region 6 with fail
              go_quiet (fail)
              go_wp2_with fail
              go_meet
              exact ⟨m, rfl, HAT, HBD.out _⟩
          · have HAT : Hid (AtIs ts key m) := ⟨hm, HLO.out, fun h => absurd h (by omega)⟩
            have hmi : (ts.length : Int) ≤ (m : Int) := by omega
            have hmd : decide (m < ts.length) = false := decide_eq_false (by omega)
            have hmd2 : decide ((m : Int) < (ts.length : Int)) = false := decide_eq_false (by omega)
            clear HLO
            go_upto_region 6 with fail
            go_quiet (fail)
            go_wp2_with fail
            go_meet
            exact ⟨m, rfl, HAT, HBD.out _⟩
      case rest =>
      obtain ⟨m, rfl, HAT, HBX⟩ := hcut
      rename World => wx
      have hmle := HAT.out.le
      have HP2 := Lib.hid (HPUT.out m HAT.out)
      have HBXW := Lib.hid (HB.out.trans (HBX.out.mono HB.out.size))
      have HBDW := Lib.hid (fun n => below_drewN HBXW.out n)
      have HRX : Hid (∀ n, RowS (wx.drewN n) W.heap.size (.slice va ts.length vc) ts) := fun n => HR.out.below (below_drewN HBX.out n)
      have k1d := HC2.out wx HBXW.out
      have hti : (ts.length : Int) ≤ 40000 := by have := HLN.out; omega
      have hm0 : (0 : Int) ≤ (m : Int) := Int.natCast_nonneg _
      have HL100 : Hid (ts.length ≤ 1000000) := by have := HLN.out; rw [Hid]; omega
      have HBS : Hid (∀ n, W.heap.size ≤ (wx.drewN n).heap.size) := fun n => (HBDW.out n).size
      clear HPUT
      have hcase : (∃ (g o2 : Nat) (x : ByteArray), va = some ⟨g, o2, none⟩ ∧ wx.cell? ⟨g, o2 + m, none⟩ = some (.string x) ∧ x = ts.getD m ByteArray.empty ∧ m < ts.length) ∨ ts.length ≤ m := by
        by_cases hmt : m < ts.length
        · rcases HKA.out with rfl | ⟨b, off, e, h⟩
          · simp at hmt
          · exact .inl ⟨b, off, _, e, keep_cell HBX.out (h m hmt), rfl, hmt⟩
        · exact .inr (by omega)
      clear HKA
      have hsplit : (∃ g o2 : Nat, va = some ⟨g, o2, none⟩ ∧ wx.cell? ⟨g, o2 + m, none⟩ = some (.string key) ∧ m < ts.length ∧ ofB (inK key.data.toList L) = ts) ∨ (ofB (inK key.data.toList L) = ts.take m ++ key :: ts.drop m ∧ ((∃ (g o2 : Nat) (x : ByteArray), va = some ⟨g, o2, none⟩ ∧ wx.cell? ⟨g, o2 + m, none⟩ = some (.string x) ∧ x ≠ key ∧ m < ts.length) ∨ ts.length ≤ m)) := by
        rcases hcase with ⟨g, o2, x, e1, c1, hx, hmt⟩ | hmt
        · by_cases hq : x = key
          · subst hq
            exact .inl ⟨g, o2, e1, c1, hmt, HP2.out.trans (if_pos ⟨hmt, hx.symm⟩)⟩
          · exact .inr ⟨HP2.out.trans (if_neg (fun q => hq (by rw [hx]; exact q.2))), .inl ⟨g, o2, x, e1, c1, hq, hmt⟩⟩
        · exact .inr ⟨HP2.out.trans (if_neg (fun q => by have := q.1; omega)), .inr hmt⟩
      clear hcase HP2
      rcases hsplit with ⟨g, o2, rfl, c1d, hmt, hp3⟩ | ⟨hp3, hcase⟩
      · have hmi : (m : Int) < (ts.length : Int) := by omega
        have HP3 := Lib.hid hp3
        clear hp3
        go_upto_region 8 with fail
        go_quiet (fail)
        go_wp2
        go_roundw
        case rel => exact ⟨k + 1, HLT.out, by go_num, by rw [HNX.out, HP3.out]; exact HRX.out _, HBDW.out _⟩
        case measure => simp [intOf]; have := HLT.out; omega
      · have HP3 := Lib.hid hp3
        clear hp3
        have hg9 : Hid (∀ (w8 : World) (v8 : Value), RowS w8 W.heap.size v8 (ts ++ [(⟨#[]⟩ : ByteArray)]) → ∃ gg cap, v8 = .slice (some ⟨gg, 0, none⟩) (ts.length + 1) cap ∧ RowS w8 W.heap.size (.slice (some ⟨gg, 0, none⟩) (ts.length + 1) cap) (ts.take ts.length ++ (⟨#[]⟩ : ByteArray) :: ts.drop ts.length)) := fun w8 v8 r8 => by
          obtain ⟨gg, cap, e, _, _⟩ := r8.cells (by simp)
          have hlen : (ts ++ [(⟨#[]⟩ : ByteArray)]).length = ts.length + 1 := by simp
          rw [hlen] at e
          rw [e] at r8
          exact ⟨gg, cap, e, by rw [List.take_length, List.drop_length]; exact r8⟩
        rcases hcase with ⟨g, o2, x, rfl, c1d, hne, hmt⟩ | hmt
        · have hmi : (m : Int) < (ts.length : Int) := by omega
          have f1 := str_ne14 hne
          clear hne
          go_upto_region 8 with fail
          go_quiet (fail)
          go_upto_region 9 with fail
          go_wp2_with (at_builtin; refine append_str rfl _ _ rfl W.heap.size (.slice (some ⟨g, o2, none⟩) ts.length vc) ts ⟨#[]⟩ rfl (HRX.out _) rfl HL100.out (HBS.out _) ?_)
          intro v8 w8 r8 hg8 ho8
          have hb8 : Below W.heap.size W w8 := ((HBDW.out _).alloc (HBS.out _) (.cells #[.string ⟨#[]⟩] 9)).grown hg8 (by rw [World.size_alloc]; exact Nat.le_succ_of_le (HBS.out _)) (fun q hq => (World.ownsRow.lt (HRX.out 0) q hq).1)
          obtain ⟨gg, cap, rfl, r8⟩ := hg9.out w8 v8 r8
          have R8 : Hid (RowS w8 W.heap.size (.slice (some ⟨gg, 0, none⟩) (ts.length + 1) cap) (ts.take ts.length ++ (⟨#[]⟩ : ByteArray) :: ts.drop ts.length)) := by
            show RowS w8 W.heap.size _ _
            simpa using r8
          have HB8 := Lib.hid hb8
          clear r8 hg8 ho8 hb8 HRX hg9 c1d f1
          go_wp2_with fail
          go_loopw [6] (fun sv wr => ∃ (j : Nat) (x : ByteArray), m ≤ j ∧ j ≤ ts.length ∧ sv = .int .i64 j ∧ Hid (RowS wr W.heap.size (.slice (some ⟨gg, 0, none⟩) (ts.length + 1) cap) (ts.take j ++ x :: ts.drop j)) ∧ Hid (Below W.heap.size W wr)) (fun sv _ => (intOf sv).toNat)
          case atStart => exact ⟨ts.length, ⟨#[]⟩, hmle, Nat.le_refl _, by first | rfl | (congr 1; omega) | (simp), R8, HB8⟩
          case round =>
            obtain ⟨j, x, hmj, hjl, rfl, HRJ, HBJ⟩ := hrel
            rename World => wj
            have hgg := rowS_lt HRJ.out
            have k1j := HC2.out wj HBJ.out
            by_cases hj : m < j
            · obtain ⟨j', rfl⟩ : ∃ j', j = j' + 1 := ⟨j - 1, by omega⟩
              have hjt : j' < ts.length := by omega
              obtain ⟨c1, fz⟩ := rowS_at HRJ.out (by rw [move_len hjl]) j' (by omega)
              rw [move_get hjt] at c1
              obtain ⟨d1, _⟩ := rowS_at HRJ.out (by rw [move_len hjl]) (j' + 1) (by omega)
              have hst := rowS_put HRJ.out (by rw [move_len hjl]) (j' + 1) (ts.getD j' ByteArray.empty)
              rw [move_one hjt] at hst
              obtain ⟨r9, hg9⟩ := hst
              obtain ⟨xx, hxx⟩ : ∃ y, y = ts.getD j' ByteArray.empty := ⟨_, rfl⟩
              rw [← hxx] at c1 r9 hg9
              generalize (ts.take (j' + 1) ++ x :: ts.drop (j' + 1)).getD (j' + 1) ByteArray.empty = dd at d1
              have R9 := Lib.hid r9
              have B9 := Lib.hid (HBJ.out.grown hg9 HBJ.out.size (fun q hq => by injection hq with hq; omega))
              have hji : (m : Int) < ((j' : Int) + 1) := by omega
              have hj40 : (j' : Int) + 1 ≤ 40001 := by omega
              have hjt2 : (j' : Int) + 1 < (ts.length : Int) + 1 := by omega
              have hjt3 : (j' : Int) < (ts.length : Int) + 1 := by omega
              clear r9 hg9 hxx HRJ HBJ hgg
              go_wp2
              go_roundw
              case rel => exact ⟨j', xx, by omega, by omega, by go_num, R9, B9⟩
              case measure => first | (simp [intOf]; done) | (simp [intOf]; omega)
            · obtain rfl : j = m := by omega
              obtain ⟨c1, fz⟩ := rowS_at HRJ.out (by rw [move_len hjl]) j (by omega)
              have hst := rowS_put HRJ.out (by rw [move_len hjl]) j key
              rw [move_last hjl] at hst
              obtain ⟨r9, hg9⟩ := hst
              generalize (ts.take j ++ x :: ts.drop j).getD j ByteArray.empty = dd at c1
              have R9 := Lib.hid r9
              have B9 := Lib.hid (HBJ.out.grown hg9 HBJ.out.size (fun q hq => by injection hq with hq; omega))
              have hjt2 : (j : Int) < (ts.length : Int) + 1 := by omega
              clear r9 hg9 HRJ HBJ hgg
              go_wp2
              go_roundw
              case rel => exact ⟨k + 1, HLT.out, by go_num, by rw [HNX.out, HP3.out]; exact R9.out, B9⟩
              case measure => simp [intOf]; have := HLT.out; omega
        · have hmi : (ts.length : Int) ≤ (m : Int) := by omega
          have hmd : decide (m < ts.length) = false := decide_eq_false (by omega)
          have hmd2 : decide ((m : Int) < (ts.length : Int)) = false := decide_eq_false (by omega)
          go_upto_region 8 with fail
          go_quiet (fail)
          go_upto_region 9 with fail
          go_wp2_with (at_builtin; refine append_str rfl _ _ rfl W.heap.size (.slice va ts.length vc) ts ⟨#[]⟩ rfl (HRX.out _) rfl HL100.out (HBS.out _) ?_)
          intro v8 w8 r8 hg8 ho8
          have hb8 : Below W.heap.size W w8 := ((HBDW.out _).alloc (HBS.out _) (.cells #[.string ⟨#[]⟩] 9)).grown hg8 (by rw [World.size_alloc]; exact Nat.le_succ_of_le (HBS.out _)) (fun q hq => (World.ownsRow.lt (HRX.out 0) q hq).1)
          obtain ⟨gg, cap, rfl, r8⟩ := hg9.out w8 v8 r8
          have R8 : Hid (RowS w8 W.heap.size (.slice (some ⟨gg, 0, none⟩) (ts.length + 1) cap) (ts.take ts.length ++ (⟨#[]⟩ : ByteArray) :: ts.drop ts.length)) := by
            show RowS w8 W.heap.size _ _
            simpa using r8
          have HB8 := Lib.hid hb8
          clear r8 hg8 ho8 hb8 HRX hg9
          go_wp2_with fail
          go_loopw [6] (fun sv wr => ∃ (j : Nat) (x : ByteArray), m ≤ j ∧ j ≤ ts.length ∧ sv = .int .i64 j ∧ Hid (RowS wr W.heap.size (.slice (some ⟨gg, 0, none⟩) (ts.length + 1) cap) (ts.take j ++ x :: ts.drop j)) ∧ Hid (Below W.heap.size W wr)) (fun sv _ => (intOf sv).toNat)
          case atStart => exact ⟨ts.length, ⟨#[]⟩, hmle, Nat.le_refl _, by first | rfl | (congr 1; omega) | (simp), R8, HB8⟩
          case round =>
            obtain ⟨j, x, hmj, hjl, rfl, HRJ, HBJ⟩ := hrel
            rename World => wj
            have hgg := rowS_lt HRJ.out
            have k1j := HC2.out wj HBJ.out
            by_cases hj : m < j
            · exfalso; omega
            · obtain rfl : j = m := by omega
              obtain ⟨c1, fz⟩ := rowS_at HRJ.out (by rw [move_len hjl]) j (by omega)
              have hst := rowS_put HRJ.out (by rw [move_len hjl]) j key
              rw [move_last hjl] at hst
              obtain ⟨r9, hg9⟩ := hst
              generalize (ts.take j ++ x :: ts.drop j).getD j ByteArray.empty = dd at c1
              have R9 := Lib.hid r9
              have B9 := Lib.hid (HBJ.out.grown hg9 HBJ.out.size (fun q hq => by injection hq with hq; omega))
              have hjt2 : (j : Int) < (ts.length : Int) + 1 := by omega
              clear r9 hg9 HRJ HBJ hgg
              go_wp2
              go_roundw
              case rel => exact ⟨k + 1, HLT.out, by go_num, by rw [HNX.out, HP3.out]; exact R9.out, B9⟩
              case measure => simp [intOf]; have := HLT.out; omega
    · obtain rfl : k = l.length := by omega
      have h1 := HR.out
      rw [show (l.map (·.k)).take l.length = l.map (·.k) from List.take_of_length_le (by rw [List.length_map]; exact Nat.le_refl _)] at h1
      have HP := Lib.hid h1
      clear h1
      go_wp2
      go_ret
      exact ⟨_, rfl, HP.out, HB.out⟩
end
end Go.Proofs.Ytjojempjmpaaaaa

namespace Go.Proofs.Ytjojempjmpaaaaa
open Go.RowKit
/-- What an owner holds of a key. -/
def hold1 (h : List Wc) (o : Int) (k : ByteArray) : List Wc := if 0 ≤ findL o k h then [h.getD (findL o k h).toNat noWc] else []
def holdsR (h : List Wc) (o : Int) : List Wc := (keysL (h.map (·.k))).flatMap (hold1 h o)
theorem flatMap_snoc {α β : Type} (f : α → List β) (l : List α) {j : Nat} (hj : j < l.length) : (l.take (j + 1)).flatMap f = (l.take j).flatMap f ++ f l[j] := by
  rw [List.take_succ_eq_append_getElem hj, List.flatMap_append, List.flatMap_cons, List.flatMap_nil, List.append_nil]
theorem hold1_len (h : List Wc) (o : Int) (k : ByteArray) : (hold1 h o k).length ≤ 1 := by
  unfold hold1
  split <;> simp
theorem flat_len {α β : Type} (f : α → List β) (hf : ∀ x, (f x).length ≤ 1) : ∀ l : List α, (l.flatMap f).length ≤ l.length
  | [] => Nat.le_refl _
  | x :: t => by
    rw [List.flatMap_cons, List.length_append, List.length_cons]
    have h1 := hf x
    have h2 := flat_len f hf t
    omega
/-- A row of claims under way: since a world. -/
structure LnR (w0 wr : World) (v : Value) (l : List Wc) : Prop where
  row : RowW wr w0.heap.size v l
  bw : Below w0.heap.size w0 wr
theorem LnR.below {w0 wr X : World} {v : Value} {l : List Wc} (h : LnR w0 wr v l) (hb : Below wr.heap.size wr X) : LnR w0 X v l := ⟨rowW_below h.row hb, h.bw.trans (hb.mono h.bw.size)⟩
theorem LnR.put {w0 wr w8 : World} {v v8 : Value} {l l2 : List Wc} (h : LnR w0 wr v l) (hr : RowW w8 w0.heap.size v8 l2) (hg : wr.grownBy w8 v.ownBlock) : LnR w0 w8 v8 l2 :=
  ⟨hr, h.bw.grown hg h.bw.size (fun g e => (World.ownsRow.lt h.row g e).1)⟩
/-- A claim in a block of its own, as a slice of one. -/
theorem one_src (X : World) (x : Wc) : Hid ((Value.slice (some ⟨X.heap.size, 0, none⟩) 1 1 = .slice none 0 0 ∧ [x] = []) ∨ ∃ b' off' c', Value.slice (some ⟨X.heap.size, 0, none⟩) 1 1 = .slice (some ⟨b', off', none⟩) [x].length c' ∧ WcsAt (X.alloc (.cells #[.int .i64 x.ow, .string x.k, .bool x.wr] 67)) (some ⟨b', off', none⟩) [x]) := .inr ⟨X.heap.size, 0, 1, rfl, .inr ⟨X.heap.size, 0, rfl, fun i hi => by
  have hi : i = 0 := by simpa using hi
  subst hi
  exact ⟨new_cell rfl rfl, new_cell rfl rfl, new_cell rfl rfl⟩⟩⟩
section
variable {W : World}
set_option maxRecDepth 100000 in
set_option maxHeartbeats 4000000 in
theorem holds14_any (aH : Option Addr) (h : List Wc) (cH : Nat) (aL : Option Addr) (l : List Wc) (cL : Nat) (o : Int) (hl : h.length ≤ 40000) (hm : WcsAt W aH h) :
    Calls Try.prog 23 #[tabV aH h cH aL l cL, .int .i64 o] W fun e W' => ∃ v, e = .returned v ∧ RowW W' W.heap.size v (holdsR h o) ∧ Below W.heap.size W W' := by
  have hba : Below W.heap.size W (W.alloc (.cells #[.slice aH h.length cH, .slice aL l.length cL] 29)) := (Below.refl _ _).alloc (Nat.le_refl _) _
  have hA := hm.below hba
  have t0 : (W.alloc (.cells #[.slice aH h.length cH, .slice aL l.length cL] 29)).cell? ⟨W.heap.size, 0, none⟩ = some (.slice aH h.length cH) := new_cell rfl rfl
  have HB := Lib.hid hba
  have hli : (h.length : Int) ≤ 40000 := by omega
  clear hm hba
  unfold tabV
  go_enter Try.func23, Try.ntmps23
  go_upto_region 1 with fail
  generalize W.alloc (.cells #[.slice aH h.length cH, .slice aL l.length cL] 29) = Y at *
  generalize hC : W.heap.size = C at t0 ⊢
  have hC2 := Lib.hid hC.symm
  have HT0 := Lib.hid t0
  have HA := Lib.hid hA
  have KK := Lib.hid (keys14_any (W := Y) aH h cH hl hA)
  clear hA
  go_upto_region 2 with fail
  go_wp2_with fail
  refine KK.out.mono ?_
  rintro e w1 ⟨vk, rfl, hrk, hbk⟩
  obtain ⟨ak, ck, rfl, hka, _⟩ := rowS_shape hrk
  have HKA := Lib.hid hka
  have HBK := Lib.hid hbk
  have HKL : Hid ((keysL (h.map (·.k))).length ≤ 40000) := by
    have := keysL_len (h.map (·.k))
    rw [List.length_map] at this
    show _ ≤ _
    omega
  have HG : Hid (holdsR h o = (keysL (h.map (·.k))).flatMap (hold1 h o)) := rfl
  generalize keysL (h.map (·.k)) = ks at *
  have hks : (ks.length : Int) ≤ 40000 := by have := HKL.out; omega
  have S0 : Hid (LnR w1 w1 (.slice none 0 0) ((ks.take 0).flatMap (hold1 h o))) := ⟨World.ownsRow_nil _ _ _ _, Below.refl _ _⟩
  clear KK hrk hka hbk t0
  go_wp2
  go_loopw [5, 7, 8] (fun v i _ wr => ∃ j : Nat, i = .int .i64 (j : Int) ∧ j ≤ ks.length ∧ Hid (LnR w1 wr v ((ks.take j).flatMap (hold1 h o)))) (fun _ i _ _ => ks.length - (intOf i).toNat)
  case atStart => exact ⟨0, rfl, Nat.zero_le _, S0⟩
  case round =>
    obtain ⟨j, rfl, hj, st⟩ := hrel
    rename World => wr
    clear S0
    by_cases hlt : j < ks.length
    · have HBW := Lib.hid (HBK.out.trans (st.out.bw.mono HBK.out.size))
      have t0 := keep_cell HBW.out HT0.out
      have hwH := HA.out.below HBW.out
      obtain ⟨gk, ok, rfl, c1⟩ : ∃ b off, ak = some ⟨b, off, none⟩ ∧ wr.cell? ⟨b, off + j, none⟩ = some (.string ks[j]) := by
        rcases HKA.out with rfl | ⟨b, off, e, h⟩
        · simp at hlt
        · refine ⟨b, off, e, keep_cell st.out.bw ?_⟩
          have := h j hlt
          rw [List.getD_eq_getElem?_getD, List.getElem?_eq_getElem hlt] at this
          exact this
      have HLT := Lib.hid hlt
      have HSN := Lib.hid (flatMap_snoc (hold1 h o) ks hlt)
      have HLEN : Hid (((ks.take j).flatMap (hold1 h o)).length ≤ 100000) := by
        have h1 := flat_len (hold1 h o) (hold1_len h o) (ks.take j)
        rw [List.length_take] at h1
        show _ ≤ _
        have := HKL.out
        omega
      have hji : (j : Int) < (ks.length : Int) := by omega
      have hjn : (0 : Int) ≤ (j : Int) := Int.natCast_nonneg _
      generalize ks[j] = key at *
      have KF := Lib.hid (fun n => (find_any (W := wr.drewN n) aH h cH o key (by omega) (hwH.below (below_drewN (Below.refl _ _) n))).mono (fun e w q => (⟨q.1, q.2.symm⟩ : e = _ ∧ w = _)))
      have HWH := Lib.hid hwH
      clear hwH
      rcases findL_cases o key h with ⟨ef, _⟩ | ⟨p, hp, ef, _, _⟩
      · rw [ef] at KF
        have HE : Hid ((ks.take (j + 1)).flatMap (hold1 h o) = (ks.take j).flatMap (hold1 h o)) := by
          have := HSN.out
          have h2 : hold1 h o key = [] := by unfold hold1; rw [ef]; rfl
          rw [h2, List.append_nil] at this
          exact this
        have S1 : Hid (∀ n, LnR w1 (wr.drewN n) u5 ((ks.take (j + 1)).flatMap (hold1 h o))) := fun n => by rw [HE.out]; exact st.out.below (below_drewN (Below.refl _ _) n)
        clear HSN HE st ef
        go_upto_region 6 with fail
        go_quiet (first | (go_at_call 45; exact Calls.quiet_of_same (KF.out _)))
        go_wp2
        go_roundw
        case rel => exact ⟨j + 1, by go_num, HLT.out, S1.out _⟩
        case measure => simp [intOf]; have := HLT.out; omega
      · have hpn : (0 : Int) ≤ (p : Int) := Int.natCast_nonneg _
        have hpi : (p : Int) < (h.length : Int) := by omega
        have HE : Hid ((ks.take (j + 1)).flatMap (hold1 h o) = (ks.take j).flatMap (hold1 h o) ++ [h[p]]) := by
          have := HSN.out
          have h2 : hold1 h o key = [h[p]] := by unfold hold1; rw [ef, if_pos (Int.natCast_nonneg _), Int.toNat_natCast, getD_at hp]
          rw [h2] at this
          exact this
        obtain ⟨ba, oa, rfl, k0, k1, k2⟩ := HWH.out.cell hp
        rw [ef] at KF
        clear HSN ef
        generalize h[p] = x at *
        obtain ⟨xk, xw, xo⟩ := x
        go_upto_region 6 with fail
        go_quiet (first | (go_at_call 45; exact Calls.quiet_of_same (KF.out _)))
        have hbd : Below wr.heap.size wr (wr.drewN nq) := below_drewN (Below.refl _ _) nq
        have ST := Lib.hid (st.out.below hbd)
        replace t0 := keep_cell hbd t0
        replace k0 := keep_cell hbd k0
        replace k1 := keep_cell hbd k1
        replace k2 := keep_cell hbd k2
        clear hbd st HBW HWH KF c1
        generalize wr.drewN nq = wq at *
        have hb2 : Below wq.heap.size wq (wq.alloc (.cells #[.int .i64 xo, .string xk, .bool xw] 67)) := (Below.refl _ _).alloc (Nat.le_refl _) _
        have S2 := Lib.hid (ST.out.below hb2)
        have SRC := one_src wq ⟨xk, xw, xo⟩
        have hs2 := S2.out.bw.size
        clear hb2 ST
        go_upto_region 8 with fail
        go_wp2_with (at_builtin; refine append_w rfl _ _ rfl w1.heap.size u5 (.slice (some ⟨wq.heap.size, 0, none⟩) 1 1) ((ks.take j).flatMap (hold1 h o)) [⟨xk, xw, xo⟩] rfl S2.out.row rfl SRC.out (by have := HLEN.out; simp only [List.length_cons, List.length_nil]; omega) hs2 ?_)
        intro v8 w8 hr8 hg8 ho8
        rw [← HE.out] at hr8
        have S8 := Lib.hid (S2.out.put hr8 hg8)
        clear hr8 hg8 ho8 S2 SRC hs2 HE
        go_wp2
        go_roundw
        case rel => exact ⟨j + 1, by go_num, HLT.out, S8⟩
        case measure => simp [intOf]; have := HLT.out; omega
    · obtain rfl : j = ks.length := by omega
      have h1 := st.out
      rw [List.take_length, ← HG.out] at h1
      have HP := Lib.hid (h1.row.mono (B' := W.heap.size) (Nat.le_trans HB.out.size HBK.out.size))
      have HQ := Lib.hid (HB.out.trans ((HBK.out.trans (h1.bw.mono HBK.out.size)).mono HB.out.size))
      clear h1 st
      go_wp2
      go_ret
      exact ⟨_, rfl, by first | exact HP.out | (rw [hC2.out]; exact HP.out), by first | exact HQ.out | (rw [hC2.out]; exact HQ.out)⟩
end
end Go.Proofs.Ytjojempjmpaaaaa
