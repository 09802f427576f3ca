/-
  THE CONTRACT OF quadrigaref04.Right of a record that changes no page.
-/
import Derived.Test.YtlggbbaigcnpjaaDoorRcRefOut
namespace Go.Proofs.YtlggbbaigcnpjaaDoor
open Go.RowKit

def noneElse (pg : Int) (key : ByteArray) (hb : Bool) (sb : ByteArray) (ha : Bool) (sa : ByteArray) : Bool :=
  decide (pg = 0) && decide (key.toList = []) && !hb && decide (sb.toList = []) && !ha && decide (sa.toList = [])
set_option maxRecDepth 100000 in
set_option maxHeartbeats 8000000 in
theorem refRight_plain (k g t p pg u : Int) (key sb sa : ByteArray) (hb ha : Bool) (w : World) (h1 : 1 ≤ t) (h2 : t ≤ 2147483647) (h3 : 1 ≤ g) (h4 : g ≤ 4611686018427387903) (h5 : 0 ≤ p) (h6 : p < g) (h7 : 1 ≤ k) (h8 : k ≤ 6) (h9 : (p == 0) = (k == 1)) (hk : (k == 2 || k == 3) = false) :
    Calls Tryd.prog 10 #[.agg #[.int .i64 k, .int .i64 g, .int .i64 t, .int .i64 p, .int .i64 pg, .string key, .bool hb, .string sb, .bool ha, .string sa, .int .i64 u]] w fun e w' => e = .returned (.bool (noneElse pg key hb sb ha sa && rcUndone k p u)) ∧ Below w.heap.size w w' := by
  have HP := fun W => page_any k W
  rw [hk] at HP
  have HP := Lib.hid HP
  have a1 : ¬ t < 1 := by omega
  have a2 : ¬ 2147483647 < t := by omega
  have a3 : ¬ g < 1 := by omega
  have a4 : ¬ 4611686018427387903 < g := by omega
  have a5 : ¬ p < 0 := by omega
  have a6 : ¬ g ≤ p := by omega
  have a7 : ¬ k < 1 := by omega
  have a8 : ¬ 6 < k := by omega
  have k3 : (k == 3) = false := by cases h : (k == 3) <;> simp_all
  have k3n : ¬ k = 3 := fun e => by rw [e] at k3; exact absurd k3 (by decide)
  clear h1 h2 h3 h4 h5 h6 h7 h8 hk
  have HB : ∀ o, Below w.heap.size w (w.alloc o) := fun o => bw_alloc (Below.refl w.heap.size w)
  have HN : Hid (noneElse pg key hb sb ha sa = (decide (pg = 0) && decide (key.toList = []) && !hb && decide (sb.toList = []) && !ha && decide (sa.toList = []))) := rfl
  have HU : Hid (rcUndone k p u = (if k = 4 then decide (0 ≤ u) && decide (u ≤ 255) else u == 0)) := Lib.hid (by unfold rcUndone; rw [if_neg k3n])
  generalize noneElse pg key hb sb ha sa = N at HN ⊢
  generalize rcUndone k p u = U at HU ⊢
  clear k3n
  obtain ⟨z, hz⟩ : ∃ z, z = (p == 0) := ⟨_, rfl⟩
  have z1 : (p == 0) = z := hz.symm
  have z2 : (k == 1) = z := by rw [hz, h9]
  clear hz h9
  cases z
  · by_cases e1 : pg = 0
    · subst e1
      by_cases e2 : key.toList = []
      · cases hb
        · by_cases e4 : sb.toList = []
          · cases ha
            · by_cases e6 : sa.toList = []
              · have hN : N = true := by rw [HN.out]; simp [e2, e4, e6]
                subst hN
                clear HN
                by_cases e7 : k = 4
                · subst e7
                  by_cases e8 : 0 ≤ u
                  · have hU : Hid (U = decide (u ≤ 255)) := Lib.hid (by rw [HU.out, if_pos rfl, decide_eq_true e8, Bool.true_and])
                    clear HU
                    go_enter Tryd.func10, Tryd.ntmps10
                    go_wp2_with fail
                    refine (HP.out _).mono ?_
                    rintro x w1 ⟨rfl, rfl⟩
                    go_wp2_with fail
                    refine (HP.out _).mono ?_
                    rintro x w1 ⟨rfl, rfl⟩
                    go_wp2
                    go_ret
                    exact ⟨by rw [hU.out, show decide (u ≤ 255) = decide (u < 256) from by congr 1; apply propext; omega]; rfl, HB _⟩
                  · have hU : Hid (U = false) := Lib.hid (by rw [HU.out, if_pos rfl, decide_eq_false e8, Bool.false_and])
                    have e9 : u < 0 := by omega
                    clear HU
                    go_enter Tryd.func10, Tryd.ntmps10
                    go_wp2_with fail
                    refine (HP.out _).mono ?_
                    rintro x w1 ⟨rfl, rfl⟩
                    go_wp2_with fail
                    refine (HP.out _).mono ?_
                    rintro x w1 ⟨rfl, rfl⟩
                    go_wp2
                    go_ret
                    exact ⟨by rw [hU.out]; rfl, HB _⟩
                · have k4 : (k == 4) = false := by rw [beq_eq_false_iff_ne]; exact e7
                  have hU : U = (u == 0) := by rw [HU.out, if_neg e7]
                  clear HU e7
                  go_enter Tryd.func10, Tryd.ntmps10
                  go_wp2_with fail
                  refine (HP.out _).mono ?_
                  rintro x w1 ⟨rfl, rfl⟩
                  go_wp2_with fail
                  refine (HP.out _).mono ?_
                  rintro x w1 ⟨rfl, rfl⟩
                  go_wp2
                  go_ret
                  exact ⟨by rw [hU]; rfl, HB _⟩
              · have hN : N = false := by rw [HN.out]; simp [e6]
                subst hN
                clear HN
                go_enter Tryd.func10, Tryd.ntmps10
                go_wp2_with fail
                refine (HP.out _).mono ?_
                rintro x w1 ⟨rfl, rfl⟩
                go_wp2_with fail
                refine (HP.out _).mono ?_
                rintro x w1 ⟨rfl, rfl⟩
                go_wp2
                go_ret
                exact ⟨by rw [Bool.false_and]; rfl, HB _⟩
            · have hN : N = false := by rw [HN.out]; simp []
              subst hN
              clear HN
              go_enter Tryd.func10, Tryd.ntmps10
              go_wp2_with fail
              refine (HP.out _).mono ?_
              rintro x w1 ⟨rfl, rfl⟩
              go_wp2_with fail
              refine (HP.out _).mono ?_
              rintro x w1 ⟨rfl, rfl⟩
              go_wp2
              go_ret
              exact ⟨by rw [Bool.false_and]; rfl, HB _⟩
          · have hN : N = false := by rw [HN.out]; simp [e4]
            subst hN
            clear HN
            go_enter Tryd.func10, Tryd.ntmps10
            go_wp2_with fail
            refine (HP.out _).mono ?_
            rintro x w1 ⟨rfl, rfl⟩
            go_wp2_with fail
            refine (HP.out _).mono ?_
            rintro x w1 ⟨rfl, rfl⟩
            go_wp2
            go_ret
            exact ⟨by rw [Bool.false_and]; rfl, HB _⟩
        · have hN : N = false := by rw [HN.out]; simp []
          subst hN
          clear HN
          go_enter Tryd.func10, Tryd.ntmps10
          go_wp2_with fail
          refine (HP.out _).mono ?_
          rintro x w1 ⟨rfl, rfl⟩
          go_wp2_with fail
          refine (HP.out _).mono ?_
          rintro x w1 ⟨rfl, rfl⟩
          go_wp2
          go_ret
          exact ⟨by rw [Bool.false_and]; rfl, HB _⟩
      · have e2' : key.toList.isEmpty = false := by cases h : key.toList <;> simp_all
        have hN : N = false := by rw [HN.out]; simp [e2]
        subst hN
        clear HN
        go_enter Tryd.func10, Tryd.ntmps10
        go_wp2_with fail
        refine (HP.out _).mono ?_
        rintro x w1 ⟨rfl, rfl⟩
        go_wp2_with fail
        refine (HP.out _).mono ?_
        rintro x w1 ⟨rfl, rfl⟩
        go_wp2
        go_ret
        exact ⟨by rw [Bool.false_and]; rfl, HB _⟩
    · have e1' : (pg == 0) = false := by rw [beq_eq_false_iff_ne]; exact e1
      have hN : N = false := by rw [HN.out]; simp [e1]
      subst hN
      clear HN
      go_enter Tryd.func10, Tryd.ntmps10
      go_wp2_with fail
      refine (HP.out _).mono ?_
      rintro x w1 ⟨rfl, rfl⟩
      go_wp2_with fail
      refine (HP.out _).mono ?_
      rintro x w1 ⟨rfl, rfl⟩
      go_wp2
      go_ret
      exact ⟨by rw [Bool.false_and]; rfl, HB _⟩
  · by_cases e1 : pg = 0
    · subst e1
      by_cases e2 : key.toList = []
      · cases hb
        · by_cases e4 : sb.toList = []
          · cases ha
            · by_cases e6 : sa.toList = []
              · have hN : N = true := by rw [HN.out]; simp [e2, e4, e6]
                subst hN
                clear HN
                by_cases e7 : k = 4
                · subst e7
                  exact absurd z2 (by decide)
                · have k4 : (k == 4) = false := by rw [beq_eq_false_iff_ne]; exact e7
                  have hU : U = (u == 0) := by rw [HU.out, if_neg e7]
                  clear HU e7
                  go_enter Tryd.func10, Tryd.ntmps10
                  go_wp2_with fail
                  refine (HP.out _).mono ?_
                  rintro x w1 ⟨rfl, rfl⟩
                  go_wp2_with fail
                  refine (HP.out _).mono ?_
                  rintro x w1 ⟨rfl, rfl⟩
                  go_wp2
                  go_ret
                  exact ⟨by rw [hU]; rfl, HB _⟩
              · have hN : N = false := by rw [HN.out]; simp [e6]
                subst hN
                clear HN
                go_enter Tryd.func10, Tryd.ntmps10
                go_wp2_with fail
                refine (HP.out _).mono ?_
                rintro x w1 ⟨rfl, rfl⟩
                go_wp2_with fail
                refine (HP.out _).mono ?_
                rintro x w1 ⟨rfl, rfl⟩
                go_wp2
                go_ret
                exact ⟨by rw [Bool.false_and]; rfl, HB _⟩
            · have hN : N = false := by rw [HN.out]; simp []
              subst hN
              clear HN
              go_enter Tryd.func10, Tryd.ntmps10
              go_wp2_with fail
              refine (HP.out _).mono ?_
              rintro x w1 ⟨rfl, rfl⟩
              go_wp2_with fail
              refine (HP.out _).mono ?_
              rintro x w1 ⟨rfl, rfl⟩
              go_wp2
              go_ret
              exact ⟨by rw [Bool.false_and]; rfl, HB _⟩
          · have hN : N = false := by rw [HN.out]; simp [e4]
            subst hN
            clear HN
            go_enter Tryd.func10, Tryd.ntmps10
            go_wp2_with fail
            refine (HP.out _).mono ?_
            rintro x w1 ⟨rfl, rfl⟩
            go_wp2_with fail
            refine (HP.out _).mono ?_
            rintro x w1 ⟨rfl, rfl⟩
            go_wp2
            go_ret
            exact ⟨by rw [Bool.false_and]; rfl, HB _⟩
        · have hN : N = false := by rw [HN.out]; simp []
          subst hN
          clear HN
          go_enter Tryd.func10, Tryd.ntmps10
          go_wp2_with fail
          refine (HP.out _).mono ?_
          rintro x w1 ⟨rfl, rfl⟩
          go_wp2_with fail
          refine (HP.out _).mono ?_
          rintro x w1 ⟨rfl, rfl⟩
          go_wp2
          go_ret
          exact ⟨by rw [Bool.false_and]; rfl, HB _⟩
      · have e2' : key.toList.isEmpty = false := by cases h : key.toList <;> simp_all
        have hN : N = false := by rw [HN.out]; simp [e2]
        subst hN
        clear HN
        go_enter Tryd.func10, Tryd.ntmps10
        go_wp2_with fail
        refine (HP.out _).mono ?_
        rintro x w1 ⟨rfl, rfl⟩
        go_wp2_with fail
        refine (HP.out _).mono ?_
        rintro x w1 ⟨rfl, rfl⟩
        go_wp2
        go_ret
        exact ⟨by rw [Bool.false_and]; rfl, HB _⟩
    · have e1' : (pg == 0) = false := by rw [beq_eq_false_iff_ne]; exact e1
      have hN : N = false := by rw [HN.out]; simp [e1]
      subst hN
      clear HN
      go_enter Tryd.func10, Tryd.ntmps10
      go_wp2_with fail
      refine (HP.out _).mono ?_
      rintro x w1 ⟨rfl, rfl⟩
      go_wp2_with fail
      refine (HP.out _).mono ?_
      rintro x w1 ⟨rfl, rfl⟩
      go_wp2
      go_ret
      exact ⟨by rw [Bool.false_and]; rfl, HB _⟩
end Go.Proofs.YtlggbbaigcnpjaaDoor
