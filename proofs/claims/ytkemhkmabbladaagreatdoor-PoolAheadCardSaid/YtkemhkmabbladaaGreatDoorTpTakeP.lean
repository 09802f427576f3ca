/-
  THE CONTRACT OF page.take.
-/
import Derived.Test.YtkemhkmabbladaaGreatDoorTpTake
import Derived.Test.YtkemhkmabbladaaGreatDoorTpSetP
namespace Go.Proofs.YtkemhkmabbladaaGreatDoor
open Go.RowKit
/-- So many cells, taken. -/
def clOf : Nat → ByteArray → Option (List (ByteArray × ByteArray))
  | 0, _ => some []
  | k + 1, s => match txOf s with
    | none => none
    | some (x, r) => match txOf r with
      | none => none
      | some (y, r2) => (clOf k r2).map fun l => (x, y) :: l
/-- A page, taken. -/
def pgOf (s : ByteArray) : Option (Nat × Nat × List (ByteArray × ByteArray)) :=
  match takeOf s 1 with
  | none => none
  | some (no, s1) => match takeOf s1 8 with
    | none => none
    | some (g, s2) => match takeOf s2 1 with
      | none => none
      | some (c, s3) => (clOf c s3).map fun l => (no, g, l)
/-- What take answers. -/
def TkPg (w : World) (o : Option (Nat × Nat × List (ByteArray × ByteArray))) (e : Ending) (w' : World) : Prop :=
  match o with
  | none => e = .returned (.tuple #[.agg #[.int .i64 0, .int .i64 0, .slice none 0 0], .bool false]) ∧ Below w.heap.size w w'
  | some (no, g, l) => ∃ a c, e = .returned (.tuple #[.agg #[.int .i64 no, .int .i64 g, .slice a l.length c], .bool true]) ∧ RowC w' w.heap.size (.slice a l.length c) l ∧ Below w.heap.size w w'
theorem RowC.base {W : World} {B C : Nat} {v : Value} {l : List (ByteArray × ByteArray)} (h : RowC W B v l) (hC : C ≤ B) : RowC W C v l := by
  obtain ⟨h1, h2⟩ := h
  refine ⟨h1, ?_⟩
  rcases h2 with h2 | ⟨g, cap, cur, hv, hb, r⟩
  · exact .inl h2
  · exact .inr ⟨g, cap, cur, hv, Nat.le_trans hC hb, r⟩
/-- The result's cells are there. -/
structure TkR (w W : World) : Prop where
  r0 : W.cell? ⟨w.heap.size, 0, none⟩ = some (.int .i64 0)
  r1 : W.cell? ⟨w.heap.size, 1, none⟩ = some (.int .i64 0)
  r2 : W.cell? ⟨w.heap.size, 2, none⟩ = some (.slice none 0 0)
  rf : ∀ i, W.frozen? ⟨w.heap.size, i, none⟩ = false
  bw : Below w.heap.size w W
theorem TkR.below {w W X : World} (h : TkR w W) (hb : Below W.heap.size W X) : TkR w X where
  r0 := keep_cell hb h.r0
  r1 := keep_cell hb h.r1
  r2 := keep_cell hb h.r2
  rf := fun i => (hb.frozen (p := ⟨w.heap.size, i, none⟩) (show w.heap.size < W.heap.size from block_lt h.r0)).trans (h.rf i)
  bw := h.bw.trans (hb.mono h.bw.size)
theorem tkR_new (w : World) (T : TypeId) : TkR w (w.alloc (.cells #[.int .i64 0, .int .i64 0, .slice none 0 0] T)) where
  r0 := new_cell rfl rfl
  r1 := new_cell rfl rfl
  r2 := new_cell rfl rfl
  rf := fun _ => World.frozen?_alloc_at _ _ _ _ rfl
  bw := (Below.refl _ _).alloc (Nat.le_refl _) _
/-- The page that is being taken. -/
structure TkW (w W : World) (P : Nat) (no g : Int) (v : Value) (l : List (ByteArray × ByteArray)) : Prop where
  res : TkR w W
  p0 : W.cell? ⟨P, 0, none⟩ = some (.int .i64 no)
  p1 : W.cell? ⟨P, 1, none⟩ = some (.int .i64 g)
  p2 : W.cell? ⟨P, 2, none⟩ = some v
  pf : ∀ i, W.frozen? ⟨P, i, none⟩ = false
  row : RowC W (P + 1) v l
  hP : w.heap.size < P
theorem TkW.below {w W X : World} {P : Nat} {no g : Int} {v : Value} {l : List (ByteArray × ByteArray)} (h : TkW w W P no g v l) (hb : Below W.heap.size W X) : TkW w X P no g v l where
  res := h.res.below hb
  p0 := keep_cell hb h.p0
  p1 := keep_cell hb h.p1
  p2 := keep_cell hb h.p2
  pf := fun i => (hb.frozen (p := ⟨P, i, none⟩) (show P < W.heap.size from block_lt h.p0)).trans (h.pf i)
  row := h.row.below hb
  hP := h.hP
/-- A row that grew, put where the page's cells stand. -/
theorem TkW.put {w W X : World} {P : Nat} {no g : Int} {v v' : Value} {l l' : List (ByteArray × ByteArray)} (h : TkW w W P no g v l) (hr : RowC X (P + 1) v' l') (hg : W.grownBy X v.ownBlock) : TkW w (X.setCell ⟨P, 2, none⟩ v') P no g v' l' := by
  have hs : P + 1 ≤ W.heap.size := block_lt h.p0
  have hb : Below (P + 1) W X := (Below.refl _ _).grown hg hs (fun k hk => (h.row.lt k hk).1)
  have hlt : w.heap.size < P + 1 := by have := h.hP; omega
  have c2 : X.cell? ⟨P, 2, none⟩ = some v := (hb.cell (p := ⟨P, 2, none⟩) (Nat.lt_succ_self P)).trans h.p2
  have ne : ∀ i, (⟨w.heap.size, i, none⟩ : Addr) ≠ ⟨P, 2, none⟩ := fun i e => by
    injection e with e1 _
    have := h.hP
    omega
  have n0 : (⟨P, 0, none⟩ : Addr) ≠ ⟨P, 2, none⟩ := fun e => by injection e with _ e; cases e
  have n1 : (⟨P, 1, none⟩ : Addr) ≠ ⟨P, 2, none⟩ := fun e => by injection e with _ e; cases e
  have hbw : Below w.heap.size w X := h.res.bw.trans (hb.mono (by omega))
  exact {
    res := {
      r0 := by rw [World.cell?_setCell_other _ _ _ _ (fun e => ne 0 e.symm)]; exact (hb.cell (p := ⟨w.heap.size, 0, none⟩) hlt).trans h.res.r0
      r1 := by rw [World.cell?_setCell_other _ _ _ _ (fun e => ne 1 e.symm)]; exact (hb.cell (p := ⟨w.heap.size, 1, none⟩) hlt).trans h.res.r1
      r2 := by rw [World.cell?_setCell_other _ _ _ _ (fun e => ne 2 e.symm)]; exact (hb.cell (p := ⟨w.heap.size, 2, none⟩) hlt).trans h.res.r2
      rf := fun i => by rw [World.frozen?_setCell]; exact (hb.frozen (p := ⟨w.heap.size, i, none⟩) hlt).trans (h.res.rf i)
      bw := hbw.setCell (by have := h.hP; show w.heap.size ≤ P; omega) _ }
    p0 := by rw [World.cell?_setCell_other _ _ _ _ (fun e => n0 e.symm)]; exact (hb.cell (p := ⟨P, 0, none⟩) (Nat.lt_succ_self P)).trans h.p0
    p1 := by rw [World.cell?_setCell_other _ _ _ _ (fun e => n1 e.symm)]; exact (hb.cell (p := ⟨P, 1, none⟩) (Nat.lt_succ_self P)).trans h.p1
    p2 := World.cell?_setCell_same _ _ _ c2
    pf := fun i => by rw [World.frozen?_setCell]; exact (hb.frozen (p := ⟨P, i, none⟩) (Nat.lt_succ_self P)).trans (h.pf i)
    row := World.ownsRow.kept hr (grown_cell X P 2 v') (by
      cases ho : v'.ownBlock with
      | none => exact .inl rfl
      | some k => exact .inr (fun e => by
          injection e with e
          have := (hr.lt k ho).1
          omega))
    hP := h.hP }
theorem TkW.there {w W X : World} {P : Nat} {no g : Int} {v : Value} {l : List (ByteArray × ByteArray)} (h : TkW w W P no g v l) (hg : W.grownBy X v.ownBlock) : X.cell? ⟨P, 2, none⟩ = some v ∧ ∀ i, X.frozen? ⟨P, i, none⟩ = false := by
  have hs : P + 1 ≤ W.heap.size := block_lt h.p0
  have hb : Below (P + 1) W X := (Below.refl _ _).grown hg hs (fun k hk => (h.row.lt k hk).1)
  exact ⟨(hb.cell (p := ⟨P, 2, none⟩) (Nat.lt_succ_self P)).trans h.p2, fun i => (hb.frozen (p := ⟨P, i, none⟩) (Nat.lt_succ_self P)).trans (h.pf i)⟩
/-- The cells of the round's own. -/
structure TkC (W : World) (R : Nat) (x y : ByteArray) : Prop where
  c0 : W.cell? ⟨R, 0, none⟩ = some (.string x)
  c1 : W.cell? ⟨R, 1, none⟩ = some (.string y)
  cf : ∀ i, W.frozen? ⟨R, i, none⟩ = false
theorem TkC.below {W X : World} {R : Nat} {x y : ByteArray} (h : TkC W R x y) (hb : Below W.heap.size W X) : TkC X R x y where
  c0 := keep_cell hb h.c0
  c1 := keep_cell hb h.c1
  cf := fun i => (hb.frozen (p := ⟨R, i, none⟩) (show R < W.heap.size from block_lt h.c0)).trans (h.cf i)
theorem tkC_new (w : World) (T : TypeId) : TkC (w.alloc (.cells #[.string ⟨#[]⟩, .string ⟨#[]⟩] T)) w.heap.size ⟨#[]⟩ ⟨#[]⟩ where
  c0 := new_cell rfl rfl
  c1 := new_cell rfl rfl
  cf := fun _ => World.frozen?_alloc_at _ _ _ _ rfl
theorem TkC.set0 {W : World} {R : Nat} {x y z : ByteArray} (h : TkC W R x y) : TkC (W.setCell ⟨R, 0, none⟩ (.string z)) R z y where
  c0 := World.cell?_setCell_same _ _ _ h.c0
  c1 := by rw [World.cell?_setCell_other _ _ _ _ (fun e => by injection e with _ e; cases e)]; exact h.c1
  cf := fun i => by rw [World.frozen?_setCell]; exact h.cf i
theorem TkC.set1 {W : World} {R : Nat} {x y z : ByteArray} (h : TkC W R x y) : TkC (W.setCell ⟨R, 1, none⟩ (.string z)) R x z where
  c0 := by rw [World.cell?_setCell_other _ _ _ _ (fun e => by injection e with _ e; cases e)]; exact h.c0
  c1 := World.cell?_setCell_same _ _ _ h.c1
  cf := fun i => by rw [World.frozen?_setCell]; exact h.cf i
theorem tkW_new {w W : World} (h : TkR w W) (hlt : w.heap.size < W.heap.size) (no g : Int) : TkW w (W.alloc (.cells #[.int .i64 no, .int .i64 g, .slice none 0 0] 36)) W.heap.size no g (.slice none 0 0) [] where
  res := h.below ((Below.refl _ _).alloc (Nat.le_refl _) _)
  p0 := new_cell rfl rfl
  p1 := new_cell rfl rfl
  p2 := new_cell rfl rfl
  pf := fun _ => World.frozen?_alloc_at _ _ _ _ rfl
  row := World.ownsRow_nil _ _ _ _
  hP := hlt
/-- A cell more of the rest. -/
theorem clOf_step {n k : Nat} {s0 s x r y r2 : ByteArray} {l : List (ByteArray × ByteArray)} (h : clOf n s0 = (clOf (n - k) s).map (l ++ ·)) (hk : k < n) (h1 : txOf s = some (x, r)) (h2 : txOf r = some (y, r2)) :
    clOf n s0 = (clOf (n - (k + 1)) r2).map ((l ++ [(x, y)]) ++ ·) := by
  have e : n - k = (n - (k + 1)) + 1 := by omega
  rw [h, e, clOf, h1]
  simp only [h2]
  cases clOf (n - (k + 1)) r2 with
  | none => rfl
  | some m => simp
theorem clOf_no1 {n k : Nat} {s0 s : ByteArray} {l : List (ByteArray × ByteArray)} (h : clOf n s0 = (clOf (n - k) s).map (l ++ ·)) (hk : k < n) (h1 : txOf s = none) : clOf n s0 = none := by
  have e : n - k = (n - (k + 1)) + 1 := by omega
  rw [h, e, clOf, h1]; rfl
theorem clOf_no2 {n k : Nat} {s0 s x r : ByteArray} {l : List (ByteArray × ByteArray)} (h : clOf n s0 = (clOf (n - k) s).map (l ++ ·)) (hk : k < n) (h1 : txOf s = some (x, r)) (h2 : txOf r = none) : clOf n s0 = none := by
  have e : n - k = (n - (k + 1)) + 1 := by omega
  rw [h, e, clOf, h1]
  simp only [h2]; rfl
theorem clOf_end {n k : Nat} {s0 s : ByteArray} {l : List (ByteArray × ByteArray)} (h : clOf n s0 = (clOf (n - k) s).map (l ++ ·)) (hk : n ≤ k) : clOf n s0 = some l := by
  rw [h, show n - k = 0 by omega, clOf]; simp
theorem take_val_some {s r : ByteArray} {K : Int} {n : Nat} (h : takeOf s K = some (n, r)) : takeVal s K = .tuple #[.int .i64 n, .string r, .bool true] := by unfold takeVal; rw [h]
theorem take_val_none {s : ByteArray} {K : Int} (h : takeOf s K = none) : takeVal s K = .tuple #[.int .i64 0, .string s, .bool false] := by unfold takeVal; rw [h]
theorem tx_val_some {s x r : ByteArray} (h : txOf s = some (x, r)) : txVal s = .tuple #[.string x, .string r, .bool true] := by unfold txVal; rw [h]
theorem tx_val_none {s : ByteArray} (h : txOf s = none) : txVal s = .tuple #[.string ⟨#[]⟩, .string ⟨#[]⟩, .bool false] := by unfold txVal; rw [h]
set_option maxRecDepth 100000 in
set_option maxHeartbeats 4000000 in
theorem takePg_any (s : ByteArray) (w : World) (hs : s.size ≤ 140737488355328) :
    Calls Tryz.prog 71 #[.string s] w (TkPg w (pgOf s)) := by
  have HR0 := Lib.hid (tkR_new w 36)
  have K1 := Lib.hid (fun W => take_any s 1 W (by omega) hs)
  cases h1 : takeOf s 1 with
  | none =>
    have HO : pgOf s = none := by unfold pgOf; rw [h1]
    rw [HO]
    rw [take_val_none h1] at K1
    clear h1 HO
    go_enter Tryz.func71, Tryz.ntmps71
    go_wp2_with fail
    refine (K1.out _).mono ?_
    rintro e w1 ⟨rfl, hb1⟩
    obtain ⟨r0, r1, r2, rf, bw⟩ := HR0.out.below hb1
    go_wp2
    obtain ⟨X, hX, x0, x1, x2, hbX, _⟩ := set3 (v0 := .int .i64 0) (v1 := .int .i64 0) (v2 := .slice none 0 0) bw (Nat.le_refl _) r0 r1 r2
    rw [← hX]
    refine bodyPost_ret (v := .tuple #[.agg #[.int .i64 0, .int .i64 0, .slice none 0 0], .bool false]) ?_ rfl ⟨rfl, hbX⟩
    simp [results, Tryz.results71, go_sem, x0, x1, x2]
  | some p =>
    obtain ⟨no, s1⟩ := p
    obtain ⟨hno, hz1, _⟩ := takeOf_small (K := 1) h1
    rw [take_val_some h1] at K1
    have K2 := Lib.hid (fun W => take_any s1 8 W (by omega) (by omega))
    cases h2 : takeOf s1 8 with
    | none =>
      have HO : pgOf s = none := by unfold pgOf; rw [h1]; simp only [h2]
      rw [HO]
      rw [take_val_none h2] at K2
      clear h1 h2 HO
      go_enter Tryz.func71, Tryz.ntmps71
      go_wp2_with fail
      refine (K1.out _).mono ?_
      rintro e w1 ⟨rfl, hb1⟩
      have HR1 := Lib.hid (HR0.out.below hb1)
      clear hb1
      go_wp2_with fail
      refine (K2.out _).mono ?_
      rintro e w2 ⟨rfl, hb2⟩
      obtain ⟨r0, r1, r2, rf, bw⟩ := HR1.out.below hb2
      go_wp2
      obtain ⟨X, hX, x0, x1, x2, hbX, _⟩ := set3 (v0 := .int .i64 0) (v1 := .int .i64 0) (v2 := .slice none 0 0) bw (Nat.le_refl _) r0 r1 r2
      rw [← hX]
      refine bodyPost_ret (v := .tuple #[.agg #[.int .i64 0, .int .i64 0, .slice none 0 0], .bool false]) ?_ rfl ⟨rfl, hbX⟩
      simp [results, Tryz.results71, go_sem, x0, x1, x2]
    | some p =>
      obtain ⟨gn, s2⟩ := p
      obtain ⟨_, hz2, hg2⟩ := takeOf_small (K := 8) h2
      rw [take_val_some h2] at K2
      have K3 := Lib.hid (fun W => take_any s2 1 W (by omega) (by omega))
      cases h3 : takeOf s2 1 with
      | none =>
        have HO : pgOf s = none := by unfold pgOf; rw [h1]; simp only [h2, h3]
        rw [HO]
        rw [take_val_none h3] at K3
        clear h1 h2 h3 HO
        go_enter Tryz.func71, Tryz.ntmps71
        go_wp2_with fail
        refine (K1.out _).mono ?_
        rintro e w1 ⟨rfl, hb1⟩
        have HR1 := Lib.hid (HR0.out.below hb1)
        clear hb1
        go_wp2_with fail
        refine (K2.out _).mono ?_
        rintro e w2 ⟨rfl, hb2⟩
        have HR2 := Lib.hid (HR1.out.below hb2)
        clear hb2
        go_wp2_with fail
        refine (K3.out _).mono ?_
        rintro e w3 ⟨rfl, hb3⟩
        obtain ⟨r0, r1, r2, rf, bw⟩ := HR2.out.below hb3
        go_wp2
        obtain ⟨X, hX, x0, x1, x2, hbX, _⟩ := set3 (v0 := .int .i64 0) (v1 := .int .i64 0) (v2 := .slice none 0 0) bw (Nat.le_refl _) r0 r1 r2
        rw [← hX]
        refine bodyPost_ret (v := .tuple #[.agg #[.int .i64 0, .int .i64 0, .slice none 0 0], .bool false]) ?_ rfl ⟨rfl, hbX⟩
        simp [results, Tryz.results71, go_sem, x0, x1, x2]
      | some p =>
        obtain ⟨n, s3⟩ := p
        obtain ⟨hn, hz3, _⟩ := takeOf_small (K := 1) h3
        rw [take_val_some h3] at K3
        have HO : Hid (pgOf s = (clOf n s3).map fun l => (no, gn, l)) := by rw [Hid]; unfold pgOf; rw [h1]; simp only [h2, h3]
        generalize pgOf s = O at HO ⊢
        clear h1 h2 h3
        have hs3 : s3.size ≤ 140737488355328 := by omega
        have KX := Lib.hid (fun t W (h : t.size ≤ 140737488355328) => takeText_any t W h)
        clear hz1 hz2 hz3 hs
        go_enter Tryz.func71, Tryz.ntmps71
        go_wp2_with fail
        refine (K1.out _).mono ?_
        rintro e w1 ⟨rfl, hb1⟩
        have HR1 := Lib.hid (HR0.out.below hb1)
        clear hb1
        go_wp2_with fail
        refine (K2.out _).mono ?_
        rintro e w2 ⟨rfl, hb2⟩
        have HR2 := Lib.hid (HR1.out.below hb2)
        clear hb2
        go_wp2_with fail
        refine (K3.out _).mono ?_
        rintro e w3 ⟨rfl, hb3⟩
        have HR3 := Lib.hid (HR2.out.below hb3)
        clear hb3
        have T0 := Lib.hid (tkW_new HR3.out (block_lt HR3.out.r0) no gn)
        clear HR3 K1 K2 K3 HR0 HR1 HR2
        go_wp2
        generalize w3.heap.size = P at *
        generalize w3.alloc (.cells #[.int .i64 no, .int .i64 gn, .slice none 0 0] 36) = W4 at *
        have HF : Hid (clOf n s3 = (clOf (n - 0) s3).map ([] ++ ·)) := by rw [Hid, Nat.sub_zero]; cases clOf n s3 <;> simp
        go_loopw [0, 41] (fun sv i wr => ∃ (k : Nat) (t : ByteArray) (l : List (ByteArray × ByteArray)) (v : Value), k ≤ n ∧ i = .int .i64 k ∧ sv = .string t ∧ t.size ≤ 140737488355328 ∧ l.length = k ∧ Hid (clOf n s3 = (clOf (n - k) t).map (l ++ ·)) ∧ Hid (TkW w wr P no gn v l)) (fun _ i _ => n - (intOf i).toNat)
        case atStart => exact ⟨0, s3, [], _, Nat.zero_le _, rfl, rfl, hs3, rfl, HF, T0⟩
        case round =>
          obtain ⟨k, t, l, v, hk, rfl, rfl, ht, hl, HC, HT⟩ := hrel
          rename World => wa
          clear HF T0
          by_cases hlt : k < n
          · have hk0 : (0 : Int) ≤ (k : Int) := by omega
            have hk1 : (k : Int) < (n : Int) := by omega
            have C0 := Lib.hid (tkC_new wa 89)
            have hba : Below wa.heap.size wa (wa.alloc (.cells #[.string ⟨#[]⟩, .string ⟨#[]⟩] 89)) := (Below.refl _ _).alloc (Nat.le_refl _) _
            have KA := Lib.hid (fun W => KX.out t W ht)
            cases hx : txOf t with
            | none =>
              have HO2 := Lib.hid (clOf_no1 HC.out hlt hx)
              rw [HO2.out] at HO
              rw [tx_val_none hx] at KA
              have HO3 : O = none := by rw [HO.out]; rfl
              subst HO3
              clear HO HO2 HC KX hx
              go_wp2_with fail
              refine (KA.out _).mono ?_
              rintro e w5 ⟨rfl, hb5⟩
              have C5 := C0.out.below hb5
              have B5 := hba.trans (hb5.mono hba.size)
              have D5 := Lib.hid (HT.out.below (B5.setCell (Nat.le_refl _) (.string ⟨#[]⟩) (p := ⟨wa.heap.size, 0, none⟩)))
              clear hb5 C0 KA hba B5
              obtain ⟨c0, c1, cf⟩ := C5
              go_upto_region 15 with fail
              generalize w5.setCell ⟨wa.heap.size, 0, none⟩ (.string ⟨#[]⟩) = Y at *
              obtain ⟨r0, r1, r2, rf, bw⟩ := D5.out.res
              clear c0 c1 cf D5
              go_wp2
              obtain ⟨X, hX, x0, x1, x2, hbX, _⟩ := set3 (v0 := .int .i64 0) (v1 := .int .i64 0) (v2 := .slice none 0 0) bw (Nat.le_refl _) r0 r1 r2
              rw [← hX]
              refine bodyPost_ret (v := .tuple #[.agg #[.int .i64 0, .int .i64 0, .slice none 0 0], .bool false]) ?_ rfl ⟨rfl, hbX⟩
              simp [results, Tryz.results71, go_sem, x0, x1, x2]
            | some q =>
              obtain ⟨x, r⟩ := q
              obtain ⟨hr1, hx1⟩ := txOf_small hx
              rw [tx_val_some hx] at KA
              have KB := Lib.hid (fun W => KX.out r W (by omega))
              cases hy : txOf r with
              | none =>
                have HO2 := Lib.hid (clOf_no2 HC.out hlt hx hy)
                rw [HO2.out] at HO
                rw [tx_val_none hy] at KB
                have HO3 : O = none := by rw [HO.out]; rfl
                subst HO3
                clear HO HO2 HC KX hx hy
                go_wp2_with fail
                refine (KA.out _).mono ?_
                rintro e w5 ⟨rfl, hb5⟩
                have C5 := C0.out.below hb5
                have B5 := hba.trans (hb5.mono hba.size)
                clear hb5 C0 KA hba
                have D5 := Lib.hid (C5.set0 (z := x))
                have E5 := Lib.hid (B5.setCell (Nat.le_refl _) (.string x) (p := ⟨wa.heap.size, 0, none⟩))
                obtain ⟨c0, c1, cf⟩ := C5
                go_wp2_with fail
                refine (KB.out _).mono ?_
                rintro e w6 ⟨rfl, hb6⟩
                have C6 := D5.out.below hb6
                have B6 := E5.out.trans (hb6.mono E5.out.size)
                have D6 := Lib.hid (HT.out.below (B6.setCell (Nat.le_refl _) (.string ⟨#[]⟩) (p := ⟨wa.heap.size, 1, none⟩)))
                clear hb6 KB D5 E5 B5 B6 c0 c1 cf
                obtain ⟨c0, c1, cf⟩ := C6
                go_upto_region 18 with fail
                generalize w6.setCell ⟨wa.heap.size, 1, none⟩ (.string ⟨#[]⟩) = Y at *
                obtain ⟨r0, r1, r2, rf, bw⟩ := D6.out.res
                clear c0 c1 cf D6
                go_wp2
                obtain ⟨X, hX, x0, x1, x2, hbX, _⟩ := set3 (v0 := .int .i64 0) (v1 := .int .i64 0) (v2 := .slice none 0 0) bw (Nat.le_refl _) r0 r1 r2
                rw [← hX]
                refine bodyPost_ret (v := .tuple #[.agg #[.int .i64 0, .int .i64 0, .slice none 0 0], .bool false]) ?_ rfl ⟨rfl, hbX⟩
                simp [results, Tryz.results71, go_sem, x0, x1, x2]
              | some q =>
                obtain ⟨y, r2⟩ := q
                obtain ⟨hr2, hy1⟩ := txOf_small hy
                rw [tx_val_some hy] at KB
                have HN := Lib.hid (clOf_step HC.out hlt hx hy)
                have hr22 : r2.size ≤ 140737488355328 := by omega
                clear HC hx hy KX hr1 hx1 hr2 hy1 ht hs3
                go_wp2_with fail
                refine (KA.out _).mono ?_
                rintro e w5 ⟨rfl, hb5⟩
                have C5 := C0.out.below hb5
                have B5 := Lib.hid (hba.trans (hb5.mono hba.size))
                clear hb5 C0 KA hba
                have D5 := Lib.hid (C5.set0 (z := x))
                have E5 := Lib.hid (B5.out.setCell (Nat.le_refl _) (.string x) (p := ⟨wa.heap.size, 0, none⟩))
                obtain ⟨c0, c1, cf⟩ := C5
                go_wp2_with fail
                refine (KB.out _).mono ?_
                rintro e w6 ⟨rfl, hb6⟩
                have C6 := D5.out.below hb6
                have B6 := E5.out.trans (hb6.mono E5.out.size)
                have F6 := Lib.hid (C6.set1 (z := y))
                have D6 := Lib.hid (HT.out.below (B6.setCell (Nat.le_refl _) (.string y) (p := ⟨wa.heap.size, 1, none⟩)))
                clear hb6 KB D5 E5 B5 B6 c0 c1 cf
                obtain ⟨c0, c1, cf⟩ := C6
                go_upto_region 20 with fail
                generalize w6.setCell ⟨wa.heap.size, 1, none⟩ (.string y) = Y at *
                clear c0 c1 cf
                obtain ⟨c0, c1, _⟩ := F6.out
                have p2 := D6.out.p2
                have hy0 : Below Y.heap.size Y (Y.alloc (.cells #[.string x, .string y] 89)) := (Below.refl _ _).alloc (Nat.le_refl _) _
                have T8 := Lib.hid (D6.out.below hy0)
                have hPs : P + 1 ≤ (Y.alloc (.cells #[.string x, .string y] 89)).heap.size := block_lt T8.out.p0
                have M8 : Hid (ClsAt (Y.alloc (.cells #[.string x, .string y] 89)) (some ⟨Y.heap.size, 0, none⟩) [(x, y)]) := .inr ⟨Y.heap.size, 0, rfl, fun i hi => by
                  match i, hi with
                  | 0, _ => exact ⟨new_cell rfl rfl, new_cell rfl rfl⟩⟩
                have HPS := Lib.hid hPs
                have hl1 : l.length ≤ 1000 := by omega
                clear hPs hy0 F6 D6
                go_wp2_with (at_builtin; refine append_cls rfl _ _ rfl (P + 1) v l (some ⟨Y.heap.size, 0, none⟩) [(x, y)] 1 rfl T8.out.row rfl M8.out (fun e => by cases e) hl1 (by simp) HPS.out ?_)
                intro v' w8 r1 hg
                obtain ⟨a', c', rfl, _⟩ := r1.cls
                obtain ⟨q2, qf⟩ := T8.out.there hg
                have HP := Lib.hid (T8.out.put r1 hg)
                rw [show (l ++ [(x, y)]).length = k + 1 by rw [List.length_append, hl]; rfl] at HP
                clear r1 hg T8 M8 HPS c0 c1 p2
                go_wp2
                go_roundw
                case rel => exact ⟨k + 1, r2, l ++ [(x, y)], _, by omega, by go_num, rfl, hr22, by rw [List.length_append, hl]; rfl, HN, HP⟩
                case measure => simp [intOf]; omega
          · have hk1 : (n : Int) ≤ (k : Int) := by omega
            have HE := Lib.hid (clOf_end HC.out (by omega))
            subst hl
            rw [HE.out] at HO
            have HO3 : O = some (no, gn, l) := HO.out
            subst HO3
            clear HO HE HC KX
            obtain ⟨⟨r0, r1, r2, rf, bw⟩, p0, p1, p2, pf, row, hP⟩ := HT.out
            have ROW := Lib.hid row
            obtain ⟨a, c, rfl, hcl, hz, hlc⟩ := row.cls
            clear hcl hz hlc row HT
            have hP' := Lib.hid hP
            clear hP
            go_wp2
            obtain ⟨X, hX, x0, x1, x2, hbX, hgX⟩ := set3 (v0 := .int .i64 no) (v1 := .int .i64 gn) (v2 := .slice a l.length c) bw (Nat.le_refl _) r0 r1 r2
            rw [← hX]
            have RX : RowC X (P + 1) (.slice a l.length c) l := World.ownsRow.kept ROW.out hgX (by
              cases ho : (Value.slice a l.length c).ownBlock with
              | none => exact .inl rfl
              | some k => exact .inr (fun e => by
                  injection e with e
                  have := (ROW.out.lt k ho).1
                  have := hP'.out
                  omega))
            refine bodyPost_ret (v := .tuple #[.agg #[.int .i64 no, .int .i64 gn, .slice a l.length c], .bool true]) ?_ rfl ⟨a, c, rfl, RX.base (by have := hP'.out; omega), hbX⟩
            simp [results, Tryz.results71, go_sem, x0, x1, x2]
end Go.Proofs.YtkemhkmabbladaaGreatDoor
