/-
  THE CONTRACT OF Rule.Chain.
-/
import Derived.Test.YtpfgdmjgeelobaaDoorFrFits
import Derived.Test.YtpfgdmjgeelobaaDoorFrSizeA
import Derived.Deep.AppendLies
import Derived.WalkSpells
namespace Go.Proofs.YtpfgdmjgeelobaaDoor
open Go.RowKit Crc

def strLen : Value → Nat
  | .string s => s.size
  | _ => 0
theorem infoF : (Tryd.prog.info? 29).map (fun i => (i.zero, i.size, i.bytes)) = some (some (.agg #[.int .i64 0, .int .i64 0, .int .i64 0, .string ⟨#[]⟩]), 4, 40) := by kernel_rfl
theorem owns_below {w w' : World} {B sz : Nat} {T : TypeId} {v : Value} {n : Nat} {xs : List Value} (h : w.ownsRow B T sz v n xs) (hb : Below w.heap.size w w') : w'.ownsRow B T sz v n xs := by
  obtain ⟨h1, h2⟩ := h
  refine ⟨h1, ?_⟩
  rcases h2 with h2 | ⟨g, cap, cur, hv, hg, hc, hn, hm, hs, ht⟩
  · exact .inl h2
  · refine .inr ⟨g, cap, cur, hv, hg, ?_, hn, hm, hs, ht⟩
    have hlt : g < w.heap.size := by
      rcases Nat.lt_or_ge g w.heap.size with h | h
      · exact h
      · simp [Array.getElem?_eq_none h] at hc
    rw [hb.block g hlt]; exact hc
theorem flat_snoc (l : List Fr) (f : Fr) : flat l ++ f.vals = flat (l ++ [f]) := by simp [flat]
theorem flat_len (l : List Fr) : (flat l).length = l.length * 4 := by
  induction l with
  | nil => rfl
  | cons f l ih =>
    unfold flat at ih ⊢
    rw [List.flatMap_cons, List.length_append, ih, List.length_cons]
    show 4 + _ = _
    omega

theorem frOk_facts {s : ByteArray} (h : frOk s = true) : 25 + frN s ≤ s.size ∧ frRight (frE s) (frA s) (frG s) (frN s) = true ∧ (frD s).size = frN s := by
  unfold frOk at h
  simp only [Bool.and_eq_true, decide_eq_true_eq] at h
  exact ⟨h.1.1.2, h.2, frD_size s (by omega)⟩

/-- What a chain's walk answers. -/
def ChainPost (T : TypeId) (r : List Fr × Int) (w : World) (x : Ending) (w' : World) : Prop :=
  ∃ v, x = .returned (.tuple #[v, .int .i64 r.2]) ∧ w'.ownsRow w.heap.size T 4 v r.1.length (flat r.1) ∧ Below w.heap.size w w'

set_option maxRecDepth 100000 in
set_option maxHeartbeats 2000000 in
theorem chain_any (ep cut at0 ab0 : Int) (s0 : ByteArray) (w : World) (hs0 : s0.size ≤ 10000) (hat0 : -2199023255552 ≤ at0 ∧ at0 ≤ 2199023255552) (ht : Tab w) :
    Calls Tryd.prog 15 #[.agg #[.int .i64 ep, .int .i64 cut], .string s0, .int .i64 at0, .int .i64 ab0] w (ChainPost 29 (chain ep cut (s0.size + 1) s0 at0 ab0) w) := by
  have HT := Lib.hid ht; clear ht
  obtain ⟨i0, hi, hz0, hz1, hz2⟩ := info_parts infoF
  obtain ⟨C0, hC0⟩ : ∃ C0, C0 = chain ep cut (s0.size + 1) s0 at0 ab0 := ⟨_, rfl⟩
  rw [← hC0]
  have HC0 := Lib.hid hC0; clear hC0
  go_enter Tryd.func15, Tryd.ntmps15
  go_wp2
  go_loopw [1, 2, 3, 10] (fun x1 x2 x3 v wr => ∃ (n : Nat) (s : ByteArray) (at_ ab : Int) (acc : List Fr), x1 = .string s ∧ x2 = .int .i64 at_ ∧ x3 = .int .i64 ab ∧ s.size < n ∧ acc.length * 25 + s.size ≤ s0.size ∧ at_ + (s.size : Int) = at0 + (s0.size : Int) ∧
    Hid (C0 = (acc ++ (chain ep cut n s at_ ab).1, (chain ep cut n s at_ ab).2)) ∧ wr.ownsRow (w.heap.size + 1) 29 4 v acc.length (flat acc) ∧
    Below (w.heap.size + 1) (w.alloc (.cells #[.int .i64 ep, .int .i64 cut] 38)) wr) (fun x1 _ _ _ _ => strLen x1)
  case atStart => exact ⟨s0.size + 1, s0, at0, ab0, [], rfl, rfl, rfl, by omega, by simp, rfl, HC0.out, World.ownsRow_nil _ _ _ _, Below.refl _ _⟩
  case round =>
    obtain ⟨n, s, at_, ab, acc, rfl, rfl, rfl, hsn, hacc, hat, HC, hown, hbr⟩ := hrel
    obtain ⟨m, rfl⟩ : ∃ m, n = m + 1 := ⟨n - 1, by omega⟩
    have hsz := hbr.size
    rw [World.size_alloc] at hsz
    have hbw : Below w.heap.size w wr := ((Below.refl _ w).alloc (Nat.le_refl _) _).trans (hbr.mono (Nat.le_succ _))
    have HO := Lib.hid (open_fr s wr (by omega) (HT.out.below hbw))
    cases hok : frOk s
    · rw [openVal_no hok] at HO
      have hst := Lib.hid (chain_stop (ep := ep) (cut := cut) (at_ := at_) (ab := ab) (n := m) (s := s) (by rw [hok]; rfl))
      go_wp2_with fail
      refine HO.out.mono ?_
      rintro x w1 ⟨rfl, hb1⟩
      have hbw1 := bw_alloc (o := .cells #[.int .i64 0, .int .i64 0, .int .i64 0, .string ⟨#[]⟩] 29) (bw_call hb1 hbw)
      go_wp2
      go_ret2
      refine ⟨_, by rw [HC.out, hst.out]; rfl, ?_, hbw1⟩
      rw [HC.out, hst.out, List.append_nil]
      exact Go.Joins.ownsRow_le ((owns_below hown hb1).alloc _) (Nat.le_succ _)
    · obtain ⟨hz, hr, hdz⟩ := frOk_facts hok
      rw [openVal_yes hok] at HO
      have HF := Lib.hid (fun W => ruleFits_any ep cut (frE s) (frA s) (frG s) at_ ab (frD s) W)
      rw [hdz, hr, Bool.true_and] at HF
      cases hfit : frFits ep cut (frE s) (frA s) (frG s) at_ ab
      · rw [hfit] at HF
        have hst := Lib.hid (chain_stop (ep := ep) (cut := cut) (at_ := at_) (ab := ab) (n := m) (s := s) (by rw [hok, hfit]; rfl))
        clear hfit hr hok
        have hn2 := frN_lt s
        generalize frE s = E at *
        generalize frA s = A at *
        generalize frG s = G at *
        generalize frD s = D at *
        generalize frN s = N at *
        go_wp2_with fail
        refine HO.out.mono ?_
        rintro x w1 ⟨rfl, hb1⟩
        have hbw1 := bw_alloc (o := .cells #[.int .i64 E, .int .i64 A, .int .i64 G, .string D] 29) (bw_call hb1 hbw)
        have hcr := block_cells hbr rfl
        have r0 := keep_alloc (o := .cells #[.int .i64 E, .int .i64 A, .int .i64 G, .string D] 29) (keep_cell hb1 ((hcr.1 0).trans rfl))
        have r1 := keep_alloc (o := .cells #[.int .i64 E, .int .i64 A, .int .i64 G, .string D] 29) (keep_cell hb1 ((hcr.1 1).trans rfl))
        go_wp2_with fail
        refine (HF.out _).mono ?_
        rintro x w2 ⟨rfl, hb2⟩
        have hbw2 := bw_call hb2 hbw1
        go_wp2
        go_ret2
        refine ⟨_, by rw [HC.out, hst.out]; rfl, ?_, hbw2⟩
        rw [HC.out, hst.out, List.append_nil]
        exact Go.Joins.ownsRow_le (owns_below ((owns_below hown hb1).alloc _) hb2) (Nat.le_succ _)
      · rw [hfit] at HF
        have hst := Lib.hid (chain_go (ep := ep) (cut := cut) (at_ := at_) (ab := ab) (n := m) (s := s) (by rw [hok, hfit]; rfl))
        have hxs : (s.extract (25 + frN s) s.size).size = s.size - (25 + frN s) := by rw [ByteArray.size_extract]; omega
        clear hfit hr hok
        have hn2 := frN_lt s
        generalize frE s = E at *
        generalize frA s = A at *
        generalize frG s = G at *
        generalize frD s = D at *
        generalize frN s = N at *
        go_wp2_with fail
        refine HO.out.mono ?_
        rintro x w1 ⟨rfl, hb1⟩
        have hbw1 := bw_alloc (o := .cells #[.int .i64 E, .int .i64 A, .int .i64 G, .string D] 29) (bw_call hb1 hbw)
        have hcr := block_cells hbr rfl
        have r0 := keep_alloc (o := .cells #[.int .i64 E, .int .i64 A, .int .i64 G, .string D] 29) (keep_cell hb1 ((hcr.1 0).trans rfl))
        have r1 := keep_alloc (o := .cells #[.int .i64 E, .int .i64 A, .int .i64 G, .string D] 29) (keep_cell hb1 ((hcr.1 1).trans rfl))
        go_wp2_with fail
        refine (HF.out _).mono ?_
        rintro x w2 ⟨rfl, hb2⟩
        have hv := var_cells hb2
        have k0 := hv 0
        have k1 := hv 1
        have k2 := hv 2
        have k3 := hv 3
        simp only [List.getElem?_toArray, List.getElem?_cons_zero, List.getElem?_cons_succ] at k0 k1 k2 k3
        have hs1 := hb1.size
        have hs2 := hb2.size
        rw [World.size_alloc] at hs2
        have hbr2 := ((hbr.trans (hb1.mono (by omega))).alloc (by omega) (.cells #[.int .i64 E, .int .i64 A, .int .i64 G, .string D] 29)).trans (hb2.mono (by rw [World.size_alloc]; omega))
        have hown2 := owns_below ((owns_below hown hb1).alloc (.cells #[.int .i64 E, .int .i64 A, .int .i64 G, .string D] 29)) hb2
        have hlo := fun k hk => (hown.lt k hk)
        clear hown hcr hv r0 r1
        go_wp2_with (at_builtin; refine wpList_append_own _ rfl _ _ 39 rfl (w.heap.size + 1) 29 i0 (.agg #[.int .i64 0, .int .i64 0, .int .i64 0, .string ⟨#[]⟩]) 4 40 Tryd.underlying39 hi hz0 hz1 hz2 rfl (by decide) _ _ _ rfl (hown2.alloc _) ⟨w2.heap.size, 0, none⟩ 1 1 [.int .i64 E, .int .i64 A, .int .i64 G, .string D] rfl rfl ?c1 ?c2 ?c3 ?c4 ?c5 ?_)
        case c1 =>
          intro j u hj
          match j, hj with
          | 0, hj => simp at hj; subst hj; simp [Addr.add, World.cell?_alloc_at]
          | 1, hj => simp at hj; subst hj; simp [Addr.add, World.cell?_alloc_at]
          | 2, hj => simp at hj; subst hj; simp [Addr.add, World.cell?_alloc_at]
          | 3, hj => simp at hj; subst hj; simp [Addr.add, World.cell?_alloc_at]
        case c2 => intro u hu; simp at hu; rcases hu with rfl | rfl | rfl | rfl <;> rfl
        case c3 => unfold maxLen; omega
        case c4 => omega
        case c5 => rw [World.size_alloc]; omega
        · intro v' w3 hown' hgrow _
          have hbr3 := (hbr2.alloc (by omega) (.cells #[.int .i64 E, .int .i64 A, .int .i64 G, .string D] 29)).grown hgrow (by rw [World.size_alloc]; omega) (fun k hk => (hlo k hk).1)
          have m2 : w3.cell? ⟨w1.heap.size, 2, none⟩ = some (.int .i64 G) := by
            rw [hgrow.cell_far ⟨w1.heap.size, 2, none⟩ (by rw [World.size_alloc]; show w1.heap.size < _; omega) (fun e => by have h9 : w1.heap.size < wr.heap.size := (hlo w1.heap.size e.symm).2; omega)]
            exact keep_alloc k2
          have hfl : flat acc ++ [Value.int .i64 (E : Int), .int .i64 A, .int .i64 G, .string D] = flat (acc ++ [⟨E, A, G, D⟩]) := flat_snoc acc ⟨E, A, G, D⟩
          have hl2 : acc.length + 1 = (acc ++ [⟨E, A, G, D⟩] : List Fr).length := by simp
          rw [hfl, hl2] at hown'
          have HON := Lib.hid hown'
          have HB3 := Lib.hid hbr3
          clear hown' hgrow hown2 hfl hl2 hbr2 hbr3 hlo k0 k1 k2 k3
          have hNs : (25 : Int) + (N : Int) ≤ (s.size : Int) := by omega
          have hN0 : (0 : Int) ≤ (25 : Int) + (N : Int) := by omega
          go_wp2_with fail
          go_quiet (fail)
          go_wp2
          go_roundw
          case rel => exact ⟨m, _, _, _, (acc ++ [(⟨(E : Int), (A : Int), (G : Int), D⟩ : Fr)] : List Fr), rfl, rfl, rfl, by omega, by rw [List.length_append, hxs]; simp; omega, by rw [hxs]; omega,
            by rw [Hid, HC.out, hst.out, List.append_assoc]; rfl, HON.out, below_drewN HB3.out _⟩
          case measure => show (s.extract (25 + N) s.size).size < s.size; omega
end Go.Proofs.YtpfgdmjgeelobaaDoor
