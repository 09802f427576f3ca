/-
  THE CONTRACT OF page.Read.
-/
import Derived.Test.YtkemhkmabbladaaGreatDoorTpTakeP
import Derived.Test.YtkemhkmabbladaaGreatDoorTpLaidOk
namespace Go.Proofs.YtkemhkmabbladaaGreatDoor
open Go.RowKit
/-- A page that is read. -/
def readOf (s : ByteArray) : Option (Nat × Nat × List (ByteArray × ByteArray)) :=
  match pgOf s with
  | none => none
  | some (no, g, l) => if pgOk no g l = true ∧ pgBytes no g l = s then some (no, g, l) else none
theorem clOf_len : ∀ (n : Nat) (s : ByteArray) (l : List (ByteArray × ByteArray)), clOf n s = some l → l.length = n
  | 0, _, l, h => by
    rw [clOf] at h
    injection h with h
    rw [← h]; rfl
  | n + 1, s, l, h => by
    rw [clOf] at h
    split at h
    · cases h
    · split at h
      · cases h
      · rename_i x r _ y r2 _
        cases hc : clOf n r2 with
        | none => rw [hc] at h; cases h
        | some m =>
          rw [hc] at h
          injection h with h
          rw [← h, List.length_cons, clOf_len n r2 m hc]
theorem pgOf_small {s : ByteArray} {no g : Nat} {l : List (ByteArray × ByteArray)} (h : pgOf s = some (no, g, l)) : no < 256 ∧ g ≤ 9223372036854775807 ∧ l.length < 256 ∧ 0 < s.size := by
  unfold pgOf at h
  split at h
  · cases h
  · rename_i no' s1 e1
    obtain ⟨a1, a2, _⟩ := takeOf_small (K := 1) e1
    split at h
    · cases h
    · rename_i g' s2 e2
      obtain ⟨_, _, b3⟩ := takeOf_small (K := 8) e2
      split at h
      · cases h
      · rename_i c s3 e3
        obtain ⟨c1, _, _⟩ := takeOf_small (K := 1) e3
        cases hc : clOf c s3 with
        | none => rw [hc] at h; cases h
        | some m =>
          rw [hc] at h
          simp only [Option.map_some, Option.some.injEq, Prod.mk.injEq] at h
          obtain ⟨rfl, rfl, rfl⟩ := h
          have := clOf_len c s3 m hc
          omega
theorem RowC.clsAt {W : World} {B : Nat} {a : Option Addr} {c : Nat} {l : List (ByteArray × ByteArray)} (h : RowC W B (.slice a l.length c) l) : ClsAt W a l := by
  obtain ⟨a', c', e', hcl, _, _⟩ := h.cls
  injection e' with e1 _ _
  subst e1
  exact hcl
theorem ne_empty {s : ByteArray} (h : 0 < s.size) : (⟨#[]⟩ : ByteArray) ≠ s := fun e => by
  rw [← e] at h
  exact absurd h (by decide)
set_option maxRecDepth 100000 in
set_option maxHeartbeats 4000000 in
theorem read_any (s : ByteArray) (w : World) (hs : s.size ≤ 140737488355328) (ht : Tab w) :
    Calls Tryz.prog 39 #[.string s] w (TkPg w (readOf s)) := by
  have HR0 := Lib.hid (tkR_new w 36)
  have HT0 := Lib.hid (ht.below ((Below.refl w.heap.size w).alloc (Nat.le_refl _) (.cells #[.int .i64 0, .int .i64 0, .slice none 0 0] 36)))
  have K1 := Lib.hid (fun W => takePg_any s W hs)
  clear ht
  cases hp : pgOf s with
  | none =>
    have HO : readOf s = none := by unfold readOf; rw [hp]
    rw [HO]
    rw [hp] at K1
    clear hp HO
    go_enter Tryz.func39, Tryz.ntmps39
    go_wp2_with fail
    refine (K1.out _).mono ?_
    rintro e w1 ⟨rfl, hb1⟩
    obtain ⟨r0, r1, r2, rf, bw⟩ := (HR0.out.below hb1).below ((Below.refl w1.heap.size w1).alloc (Nat.le_refl _) (.cells #[.int .i64 0, .int .i64 0, .slice none 0 0] 36))
    go_upto_region 2 with fail
    generalize w1.alloc (.cells #[.int .i64 0, .int .i64 0, .slice none 0 0] 36) = Y at *
    go_wp2
    obtain ⟨X, hX, x0, x1, x2, hbX, _⟩ := set3 (v0 := .int .i64 0) (v1 := .int .i64 0) (v2 := .slice none 0 0) bw (Nat.le_refl _) r0 r1 r2
    rw [← hX]
    refine bodyPost_ret (v := .tuple #[.agg #[.int .i64 0, .int .i64 0, .slice none 0 0], .bool false]) ?_ rfl ⟨rfl, hbX⟩
    simp [results, Tryz.results39, go_sem, x0, x1, x2]
  | some q =>
    obtain ⟨no, g, l⟩ := q
    obtain ⟨q1, q2, q3, q4⟩ := pgOf_small hp
    rw [hp] at K1
    have HO : Hid (readOf s = if pgOk no g l = true ∧ pgBytes no g l = s then some (no, g, l) else none) := by rw [Hid]; unfold readOf; rw [hp]
    generalize readOf s = O at HO ⊢
    clear hp
    have hll : l.length ≤ maxLen := by unfold maxLen; omega
    cases hk : pgOk no g l with
    | false =>
      have KL := Lib.hid (fun a c W (ha : ClsAt W a l) => pgLaid_bad no g a l c W hll ha hk)
      have HO3 : O = none := by rw [HO.out, if_neg (by rw [hk]; intro h; cases h.1)]
      subst HO3
      have hne := ne_empty q4
      have hn1 := ba_neL hne
      have hn2 := ba_neL' hne
      have hn3 : s.toList.isEmpty = false := by rw [List.isEmpty_eq_false_iff]; intro e; exact hn2 (by rw [e, ByteArray.toList_eq])
      clear HO hk hll q4
      go_enter Tryz.func39, Tryz.ntmps39
      go_wp2_with fail
      refine (K1.out _).mono ?_
      rintro e w1 ⟨a, c, rfl, hrow, hb1⟩
      have hby := (Below.refl w1.heap.size w1).alloc (Nat.le_refl _) (.cells #[.int .i64 no, .int .i64 g, .slice a l.length c] 36)
      have HR1 := Lib.hid ((HR0.out.below hb1).below hby)
      have HC1 := Lib.hid (hrow.below hby)
      clear hby hrow hb1 K1 HR0 HT0
      go_wp2_with fail
      refine (KL.out _ _ _ (HC1.out.clsAt)).mono ?_
      rintro e w2 ⟨rfl, hb2⟩
      obtain ⟨r0, r1, r2, rf, bw⟩ := HR1.out.below hb2
      clear hb2 HR1 HC1 KL
      go_wp2
      obtain ⟨X, hX, x0, x1, x2, hbX, _⟩ := set3 (v0 := .int .i64 0) (v1 := .int .i64 0) (v2 := .slice none 0 0) bw (Nat.le_refl _) r0 r1 r2
      rw [← hX]
      refine bodyPost_ret (v := .tuple #[.agg #[.int .i64 0, .int .i64 0, .slice none 0 0], .bool false]) ?_ rfl ⟨rfl, hbX⟩
      simp [results, Tryz.results39, go_sem, x0, x1, x2]
    | true =>
      have KL := Lib.hid (fun a c W (ha : ClsAt W a l) hT => pgLaid_any no g a l c W ha hT hk)
      by_cases hb : pgBytes no g l = s
      · have HO3 : O = some (no, g, l) := by rw [HO.out, if_pos ⟨hk, hb⟩]
        subst HO3
        rw [hb] at KL
        clear HO hk hll hb
        go_enter Tryz.func39, Tryz.ntmps39
        go_wp2_with fail
        refine (K1.out _).mono ?_
        rintro e w1 ⟨a, c, rfl, hrow, hb1⟩
        have hby := (Below.refl w1.heap.size w1).alloc (Nat.le_refl _) (.cells #[.int .i64 no, .int .i64 g, .slice a l.length c] 36)
        have HR1 := Lib.hid ((HR0.out.below hb1).below hby)
        have HC1 := Lib.hid (hrow.below hby)
        have HT1 := Lib.hid ((HT0.out.below hb1).below hby)
        clear hby hrow hb1 K1 HR0 HT0
        go_wp2_with fail
        refine (KL.out _ _ _ (HC1.out.clsAt) HT1.out).mono ?_
        rintro e w2 ⟨rfl, hb2⟩
        obtain ⟨r0, r1, r2, rf, bw⟩ := HR1.out.below hb2
        have HC2 := Lib.hid (HC1.out.below hb2)
        have p0 : w2.cell? ⟨w1.heap.size, 0, none⟩ = some (.int .i64 no) := keep_cell hb2 (new_cell rfl rfl)
        have p1 : w2.cell? ⟨w1.heap.size, 1, none⟩ = some (.int .i64 g) := keep_cell hb2 (new_cell rfl rfl)
        have p2 : w2.cell? ⟨w1.heap.size, 2, none⟩ = some (.slice a l.length c) := keep_cell hb2 (new_cell rfl rfl)
        clear hb2 HR1 HC1 KL HT1
        go_wp2
        obtain ⟨X, hX, x0, x1, x2, hbX, hgX⟩ := set3 (v0 := .int .i64 no) (v1 := .int .i64 g) (v2 := .slice a l.length c) bw (Nat.le_refl _) r0 r1 r2
        rw [← hX]
        have RX : RowC X (w.alloc (.cells #[.int .i64 0, .int .i64 0, .slice none 0 0] 36)).heap.size (.slice a l.length c) l := World.ownsRow.kept HC2.out hgX (by
          cases ho : (Value.slice a l.length c).ownBlock with
          | none => exact .inl rfl
          | some k => exact .inr (fun e => by
              injection e with e
              have := (HC2.out.lt k ho).1
              rw [World.size_alloc] at this
              omega))
        refine bodyPost_ret (v := .tuple #[.agg #[.int .i64 no, .int .i64 g, .slice a l.length c], .bool true]) ?_ rfl ⟨a, c, rfl, RX.base (by rw [World.size_alloc]; omega), hbX⟩
        simp [results, Tryz.results39, go_sem, x0, x1, x2]
      · have HO3 : O = none := by rw [HO.out, if_neg (fun h => hb h.2)]
        subst HO3
        have hn1 := ba_neL hb
        have hn2 := ba_neL' hb
        generalize pgBytes no g l = sb at *
        clear HO hk hll hb
        go_enter Tryz.func39, Tryz.ntmps39
        go_wp2_with fail
        refine (K1.out _).mono ?_
        rintro e w1 ⟨a, c, rfl, hrow, hb1⟩
        have hby := (Below.refl w1.heap.size w1).alloc (Nat.le_refl _) (.cells #[.int .i64 no, .int .i64 g, .slice a l.length c] 36)
        have HR1 := Lib.hid ((HR0.out.below hb1).below hby)
        have HC1 := Lib.hid (hrow.below hby)
        have HT1 := Lib.hid ((HT0.out.below hb1).below hby)
        clear hby hrow hb1 K1 HR0 HT0
        go_wp2_with fail
        refine (KL.out _ _ _ (HC1.out.clsAt) HT1.out).mono ?_
        rintro e w2 ⟨rfl, hb2⟩
        obtain ⟨r0, r1, r2, rf, bw⟩ := HR1.out.below hb2
        clear hb2 HR1 HC1 KL
        go_wp2
        obtain ⟨X, hX, x0, x1, x2, hbX, _⟩ := set3 (v0 := .int .i64 0) (v1 := .int .i64 0) (v2 := .slice none 0 0) bw (Nat.le_refl _) r0 r1 r2
        rw [← hX]
        refine bodyPost_ret (v := .tuple #[.agg #[.int .i64 0, .int .i64 0, .slice none 0 0], .bool false]) ?_ rfl ⟨rfl, hbX⟩
        simp [results, Tryz.results39, go_sem, x0, x1, x2]
end Go.Proofs.YtkemhkmabbladaaGreatDoor
