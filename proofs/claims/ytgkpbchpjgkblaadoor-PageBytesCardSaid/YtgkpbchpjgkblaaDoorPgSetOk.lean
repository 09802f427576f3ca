/-
  THE CONTRACT OF page.Set, where the page is answered.
-/
import Derived.Test.YtgkpbchpjgkblaaDoorPgSet
namespace Go.Proofs.YtgkpbchpjgkblaaDoor
open Go.RowKit
/-- The cells behind a Set. -/
def newCl (l : List (ByteArray × ByteArray)) (key : ByteArray) (h : Bool) (s : ByteArray) (n : Nat) (fd : Bool) : List (ByteArray × ByteArray) :=
  l.take n ++ (if h = true then [(key, s)] else []) ++ l.drop (if fd = true then n + 1 else n)
def SetYes (no g : Int) (l : List (ByteArray × ByteArray)) (key : ByteArray) (h : Bool) (s : ByteArray) (w : World) (e : Ending) (w' : World) : Prop :=
  ∃ n v, PosOf l key n ∧ e = .returned (.tuple #[.agg #[.int .i64 no, .int .i64 g, v], .int .i64 0]) ∧ RowC w' w.heap.size v (newCl l key h s n (foundB l key n)) ∧ Below w.heap.size w w'
theorem RowC.fr {W W' : World} {B R : Nat} {v : Value} {l : List (ByteArray × ByteArray)} (h : RowC W B v l) (hg : W.grownBy W' (some R)) (hR : R < B) : RowC W' B v l :=
  World.ownsRow.kept h hg (by
    cases hv : v.ownBlock with
    | none => exact .inl rfl
    | some k =>
      have := (World.ownsRow.lt h k hv).1
      exact .inr (fun e => by injection e with e; omega))
theorem RowC.base {W : World} {B B' : Nat} {v : Value} {l : List (ByteArray × ByteArray)} (h : RowC W B v l) (hB : B' ≤ B) : RowC W B' v l := by
  obtain ⟨h0, h⟩ := h
  refine ⟨h0, ?_⟩
  rcases h with h | ⟨g, cap, cur, hv, hb, r⟩
  · exact .inl h
  · exact .inr ⟨g, cap, cur, hv, Nat.le_trans hB hb, r⟩
section
variable (no gsn : Int) (a : Option Addr) (l : List (ByteArray × ByteArray)) (c : Nat) (key : ByteArray) (s : ByteArray) (g : Int) (w : World)
set_option maxRecDepth 100000 in
set_option maxHeartbeats 4000000 in
theorem set_tt (hn : l.length ≤ maxLen) (hlc : l.length ≤ c) (hz : a = none → c = 0) (ha : ClsAt w a l) (hok : pgOk no gsn l = true) (hky : kyOk key = true) (hvl : vlOk true s = true) (hg : gsn < g) (hg2 : g ≤ 4611686018427387903) (hhit : ∀ n, PosOf l key n → foundB l key n = true) :
    Calls Tryd.prog 15 #[.agg #[.int .i64 no, .int .i64 gsn, .slice a l.length c], .string key, .agg #[.bool true, .string s], .int .i64 g] w (SetYes no g l key true s w) := by
  have G0 := setIn_ok w no gsn a l.length c true s
  have KR := Lib.hid (right_any no gsn a l c _ hn (ha.below G0.bw))
  rw [hok] at KR
  have K2 := Lib.hid (fun W => key_one key W)
  rw [hky] at K2
  have K3 := Lib.hid (fun W => val_one true s W)
  rw [hvl] at K3
  obtain ⟨_, _, _, _, h8, hcs⟩ := pgOk_parts hok
  have KF := Lib.hid (fun W (hb : Below w.heap.size w W) => find_any a l c key W (by omega) (rise_of hcs) (ha.below hb))
  have HS0 := Lib.hid G0
  have HA := Lib.hid ha
  clear ha G0 hok hky hvl hcs
  have HM := Lib.hid hhit
  clear hhit
  go_enter Tryd.func15, Tryd.ntmps15
  go_wp2_with fail
  refine KR.out.mono ?_
  rintro e w5 ⟨rfl, hb5⟩
  have S5 := Lib.hid (HS0.out.below hb5)
  clear hb5 KR
  go_wp2_with fail
  refine (K2.out _).mono ?_
  rintro e w6 ⟨rfl, hb6⟩
  have S6 := Lib.hid ((S5.out.below ((Below.refl _ _).alloc (o := .cells #[.string key] 9) (Nat.le_refl _))).below hb6)
  clear hb6 S5 K2
  have v0 := S6.out.v0
  have v1 := S6.out.v1
  go_wp2_with fail
  refine (K3.out _).mono ?_
  rintro e w7 ⟨rfl, hb7⟩
  have S7 := Lib.hid ((S6.out.below ((Below.refl _ _).alloc (o := .cells #[.bool true, .string s] 29) (Nat.le_refl _))).below hb7)
  clear hb7 S6 K3 v0 v1
  have p1 := S7.out.p1
  have p2 := S7.out.p2
  have K4 := Lib.hid (KF.out _ S7.out.bw)
  clear KF
  go_wp2_with fail
  refine K4.out.mono ?_
  rintro e w8 ⟨n, hp, rfl, hb8⟩
  have S8 := Lib.hid (S7.out.below hb8)
  clear hb8 S7 K4 p1 p2
  have hf := HM.out n hp
  have HFB := Lib.hid hf
  have hnl : n < l.length := by
    unfold foundB at hf
    rw [Bool.and_eq_true, decide_eq_true_iff] at hf
    exact hf.1
  obtain ⟨b, hb⟩ : ∃ b, b = n + 1 := ⟨_, rfl⟩
  rw [hf]
  have HP := Lib.hid hp
  unfold maxLen at hn
  have q0 := S8.out.v0
  have q1 := S8.out.v1
  have q2 := S8.out.p2
  obtain ⟨a1, hs1, hm1, hz1⟩ := slice_to a l c n hlc (by omega) hz
  obtain ⟨a2, c2, hs2, hm2, hz2⟩ := slice_from a l c b hlc (by omega) hz
  have HS1 := Lib.hid hs1
  have HS2 := Lib.hid hs2
  have HM1 := Lib.hid hm1
  have HM2 := Lib.hid hm2
  have HZ1 := Lib.hid hz1
  have HZ2 := Lib.hid hz2
  have hl1 : (l.take n).length = n := by rw [List.length_take]; omega
  have HL1 := Lib.hid hl1
  have hl2 : (l.drop b).length ≤ 100 := by rw [List.length_drop]; omega
  have HN9 : Hid (newCl l key true s n (foundB l key n) = l.take n ++ [(key, s)] ++ l.drop b) := by
    show _ = _
    rw [HFB.out, hb]; rfl
  have hw0 : (n : Int) + 1 = (b : Int) := by omega
  have hw1 : IntKind.i64.wrap ((n : Int) + 1) = (b : Int) := by rw [IntWalk.i64_in _ (by omega)]; omega
  have hn8 : n ≤ 8 := by omega
  clear hb
  clear hf hp HM HS0 hs1 hs2 hm1 hm2 hz1 hz2 hl1 hlc hnl HFB hz
  have hba : Below w8.heap.size w8 (w8.alloc (.cells #[.string key, .string s] 44)) := (Below.refl _ _).alloc (Nat.le_refl _) _
  have S9 := Lib.hid (S8.out.below hba)
  have M9 : Hid (ClsAt (w8.alloc (.cells #[.string key, .string s] 44)) (some ⟨w8.heap.size, 0, none⟩) [(key, s)]) := .inr ⟨w8.heap.size, 0, rfl, fun i hi => by
    match i, hi with
    | 0, _ => exact ⟨new_cell rfl rfl, new_cell rfl rfl⟩⟩
  have Z9 : Hid (∀ (_ : (some (⟨w8.heap.size, 0, none⟩ : Addr)) = none), (1 : Nat) = 0) := fun e => by cases e
  go_upto_region 14 with fail
  generalize w8.alloc (.cells #[.string key, .string s] 44) = W9 at *
  obtain ⟨a9, ha9⟩ : ∃ x, x = (some (⟨w8.heap.size, 0, none⟩ : Addr)) := ⟨_, rfl⟩
  have HA9 := Lib.hid ha9
  rw [← ha9] at M9 Z9
  clear ha9
  clear q0 q1 q2 hba S8
  have q2 := S9.out.p2
  have hs1 := HS1.out
  have hs2 := HS2.out
  go_wp2_with fail
  go_still_tail 9, (by kernel_rfl)
  change wpList _ _ _ _ _ W9.drew
  clear hs1 hs2
  have KC : Hid (Calls Tryd.prog 29 #[.slice (some ⟨W9.heap.size, 0, none⟩) 3 3] (W9.alloc (.cells #[.slice a1 n c, .slice a9 1 1, .slice a2 (l.length - b) c2] 22)).drew fun e w' => ∃ v, e = .returned v ∧ RowC w' W9.heap.size v (l.take n ++ [(key, s)] ++ l.drop b) ∧ Hid (SetW w w' no gsn a l.length c true s)) := by
    have hb9 : Below W9.heap.size W9 (W9.alloc (.cells #[.slice a1 n c, .slice a9 1 1, .slice a2 (l.length - b) c2] 22)).drew := ((Below.refl _ W9).alloc (Nat.le_refl _) _).drew
    have hA9 := (HA.out.below S9.out.bw).below hb9
    refine (concat_any W9.heap.size [⟨a1, l.take n, c⟩, ⟨a9, [(key, s)], 1⟩, ⟨a2, l.drop b, c2⟩] 3 _ (by simp) (fun k hk => ?_)).mono ?_
    · match k, hk with
      | 0, _ => exact ⟨by rw [show (List.getD [(⟨a1, l.take n, c⟩ : Sl), ⟨a9, [(key, s)], 1⟩, ⟨a2, l.drop b, c2⟩] 0 noSl) = ⟨a1, l.take n, c⟩ from rfl]; simp only; rw [HL1.out]; exact new_cell rfl rfl, HM1.out _ hA9, HZ1.out, by show (l.take n).length ≤ 100; rw [HL1.out]; omega⟩
      | 1, _ => exact ⟨new_cell rfl rfl, M9.out.below hb9, Z9.out, by show ([(key, s)] : List (ByteArray × ByteArray)).length ≤ 100; simp⟩
      | 2, _ => exact ⟨by rw [show (List.getD [(⟨a1, l.take n, c⟩ : Sl), ⟨a9, [(key, s)], 1⟩, ⟨a2, l.drop b, c2⟩] 2 noSl) = ⟨a2, l.drop b, c2⟩ from rfl]; simp only [List.length_drop]; exact new_cell rfl rfl, HM2.out _ hA9, HZ2.out, hl2⟩
    · rintro e w' ⟨v, rfl, hr, hb⟩
      refine ⟨v, rfl, ?_, (S9.out.below hb9).below hb⟩
      have ej : joinS [⟨a1, l.take n, c⟩, ⟨a9, [(key, s)], 1⟩, ⟨a2, l.drop b, c2⟩] = l.take n ++ [(key, s)] ++ l.drop b := by simp [joinS]
      rw [ej] at hr
      exact hr.base (by show W9.heap.size ≤ (W9.alloc _).heap.size; rw [World.size_alloc]; exact Nat.le_succ _)
  rw [HA9.out] at KC
  have hW9 := S9.out.r0
  have hWs : w.heap.size + 1 + 1 < W9.heap.size := block_lt hW9
  clear hW9
  go_wp2_with fail
  refine KC.out.mono ?_
  rintro e w10 ⟨v, rfl, hr, S10⟩
  obtain ⟨p0, p1, p2, v0, v1, r0, r1, r2, rf, bw⟩ := S10.out
  have HR := Lib.hid hr
  have hvv : ∃ av cv nv, v = .slice av nv cv := by
    obtain ⟨av, cv, e, _⟩ := hr.cls
    exact ⟨av, cv, _, e⟩
  obtain ⟨av, cv, nv, rfl⟩ := hvv
  clear hr KC q2 S9 M9
  go_wp2
  obtain ⟨X, hX, x0, x1, x2, hbX, hgX⟩ := set3 (v0 := .int .i64 no) (v1 := .int .i64 g) (v2 := .slice av nv cv) bw (by omega) r0 r1 r2
  rw [← hX]
  have hfin : RowC X w.heap.size (.slice av nv cv) (newCl l key true s n (foundB l key n)) := by
    rw [HN9.out]
    exact (HR.out.fr hgX hWs).base (by omega)
  refine bodyPost_ret (v := .tuple #[.agg #[.int .i64 no, .int .i64 g, .slice av nv cv], .int .i64 0]) ?_ rfl ⟨n, _, HP.out, rfl, hfin, hbX⟩
  simp [results, Tryd.results15, go_sem, x0, x1, x2]
end
end Go.Proofs.YtgkpbchpjgkblaaDoor
