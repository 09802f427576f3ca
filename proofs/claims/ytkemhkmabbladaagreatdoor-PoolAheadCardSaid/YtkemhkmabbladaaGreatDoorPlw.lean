/-
  THE CONTRACT OF pool's Flush, of any numbers, where no page has a cell.
  THE CONTRACTS OF pool's Flush, where no page has a cell: of numbers that are given, of none.
  THE NUMBERS AT HAND, as a list; Get of a number that no page has.
  WHAT PoolAhead HOLDS OF A POOL, and each act upon it: no page has a cell, none that lasts has a number above the horizons.
-/
import Derived.Test.YtkemhkmabbladaaGreatDoorPly
import Derived.Test.YtkemhkmabbladaaGreatDoorPlz
import Derived.Deep.Cut
import Derived.Deep.CutRange
import Derived.Deep.DeepCutAuto
namespace Go.Proofs.YtkemhkmabbladaaGreatDoor
open Go.RowKit
section
variable {w W X : World} {D P L M n B T np Q room MF k : Nat} {now : Nat → Pg} {o : Int → Option Nat} {fv : Int → FrD}
/-- How many frames of pages below a number are dirty. -/
def dc : Nat → (Int → FrD) → Nat
  | 0, _ => 0
  | n + 1, fv => dc n fv + (if 0 < (fv (n : Int)).first then 1 else 0)
theorem kf_cell' {w w' : World} {p : Addr} {v : Value} (hb : Below w.heap.size w w') (hc : w.cell? p = some v) (hf : w.frozen? p = false) : w'.frozen? p = false := (hb.frozen (p := p) (Dv.block_lt hc)).trans hf
theorem dc_same {f g : Int → FrD} : ∀ (n : Nat), (∀ i : Nat, i < n → (f i).first = (g i).first) → dc n f = dc n g
  | 0, _ => rfl
  | n + 1, h => by unfold dc; rw [dc_same n (fun i hi => h i (by omega)), h n (by omega)]
theorem dc_le (f : Int → FrD) : ∀ n, dc n f ≤ n
  | 0 => Nat.le_refl _
  | n + 1 => by unfold dc; have := dc_le f n; split <;> omega
theorem dc_put {f : Int → FrD} {x : FrD} (hx : x.first = 0) : ∀ (n i : Nat), i < n → 0 < (f i).first → dc n (updV f i x) + 1 = dc n f
  | n + 1, i, hi, hf => by
    unfold dc
    by_cases e : i = n
    · subst e
      rw [dc_same i (f := updV f i x) (g := f) (fun j hj => by unfold updV; rw [if_neg (by omega)]), if_pos hf]
      have : (updV f (i : Int) x (i : Int)).first = 0 := by unfold updV; rw [if_pos rfl]; exact hx
      rw [if_neg (by omega)]
    · have ih := dc_put hx n i (by omega) hf
      have : (updV f (i : Int) x (n : Int)).first = (f n).first := by unfold updV; rw [if_neg (by omega)]
      rw [this]
      omega
/-- Flush's walk: uses, what lasts, the frames, the count. -/
structure FlSt where
  B : Nat
  now : Nat → Pg
  fv : Int → FrD
  cnt : Int
def flR (hz : Int) (x : Int) (s : FlSt) : Int × FlSt :=
  if ¬ 0 < (s.fv x).first then (0, s) else if hz < (s.fv x).g then (10, s) else
    (0, ⟨s.B + 14, setPg s.now x.toNat ((s.fv x).g, []), updV s.fv x ⟨(s.fv x).g, (s.fv x).v, [], 0, (s.fv x).pins⟩, s.cnt + 1⟩)
/-- No frame has a cell. -/
def FrOk (o : Int → Option Nat) (fv : Int → FrD) : Prop := ∀ i F, o i = some F → (fv i).l = [] ∧ pgOk i (fv i).g [] = true
/-- No page that lasts has a cell, or a number above one. -/
def NwOk (np : Nat) (now : Nat → Pg) (H : Int) : Prop := ∀ j, j < np → (now j).2 = [] ∧ 0 ≤ (now j).1 ∧ (now j).1 ≤ H
/-- What stays while Flush goes round. -/
structure FlI (w W W' : World) (D P L M n B T np Q room MF k : Nat) (o : Int → Option Nat) (fv : Int → FrD) (a : Option Addr) (ks : List Int) (hz H : Int) (HB PB CB : Nat) (s : FlSt) : Prop where
  pl : PlS w W' D P L M n s.B T np s.now Q room MF k o s.fv
  bb : s.B + 14 * dc np s.fv = B + 14 * dc np fv
  cc : s.cnt + dc np s.fv = dc np fv ∧ 0 ≤ s.cnt
  fo : FrOk o s.fv
  nw : NwOk np s.now H
  vs : ∀ i, (s.fv i).v = (fv i).v ∧ (s.fv i).g = (fv i).g
  rw : IRow W' a ks
  hb : W'.cell? ⟨HB, 0, none⟩ = some (.int .i64 hz)
  pb : W'.cell? ⟨PB, 0, none⟩ = some (.pointer (some ⟨Q, 0, none⟩))
  cb : W'.cell? ⟨CB, 0, none⟩ = some (.int .i64 s.cnt)
  cf : W'.frozen? ⟨CB, 0, none⟩ = false
theorem fl_any {a : Option Addr} {ks : List Int} {hz H : Int} {HB PB CB : Nat} {s : FlSt} (hn : n ≤ 4096) (h3 : 5 + 4 * np ≤ n) (hnp : np ≤ 64) (hB : B + 14 * np ≤ 890000) (hH : ∀ i F, o i = some F → (fv i).g ≤ hz → (fv i).g ≤ H)
    (hCB : CB ≠ P ∧ CB ≠ L ∧ CB ≠ M ∧ w.heap.size ≤ CB) (hF : ∀ i F', o i = some F' → F' ≠ CB ∧ F' ≠ HB ∧ F' ≠ PB) (hR : ∀ i F' r, o i = some F' → (fv i).v.ownBlock = some r → r ≠ CB) (hHB : HB ≠ P ∧ HB ≠ L ∧ HB ≠ M ∧ HB ≠ CB) (hPB : PB ≠ P ∧ PB ≠ L ∧ PB ≠ M ∧ PB ≠ CB)
    (hra : ks ≠ [] → ∀ b off, a = some ⟨b, off, none⟩ → b ≠ P ∧ b ≠ L ∧ b ≠ M ∧ b ≠ CB ∧ ∀ i F', o i = some F' → F' ≠ b)
    {W' : World} (hi : FlI w W W' D P L M n B T np Q room MF k o fv a ks hz H HB PB CB s) (x : Int) {F : Nat} (e : o x = some F) :
    Calls Tryz.prog 48 #[.pointer (some ⟨F, 0, none⟩), .pointer (some ⟨HB, 0, none⟩), .pointer (some ⟨PB, 0, none⟩), .pointer (some ⟨CB, 0, none⟩)] W' fun y w' => y = .returned (.int .i64 (flR hz x s).1) ∧ FlI w W w' D P L M n B T np Q room MF k o fv a ks hz H HB PB CB (flR hz x s).2 := by
  unfold flR
  by_cases hf : 0 < (s.fv x).first
  · rw [if_neg (by omega)]
    by_cases hg : hz < (s.fv x).g
    · rw [if_pos hg]
      refine (fl_busy hi.pl x e HB PB CB hz hi.hb hf hg).mono ?_
      rintro y w' ⟨rfl, q, rfl⟩
      have hbd := below_drewN (Below.refl W'.heap.size W') q
      exact ⟨rfl, hi.pl.below hbd, hi.bb, hi.cc, hi.fo, hi.nw, hi.vs, hi.rw.below hbd, Dv.keep_cell hbd hi.hb, Dv.keep_cell hbd hi.pb, Dv.keep_cell hbd hi.cb, kf_cell' hbd hi.cb hi.cf⟩
    · rw [if_neg hg]
      obtain ⟨k1, k2⟩ := hi.pl.keys x (by rw [e]; rfl)
      obtain ⟨xn, rfl⟩ := Int.eq_ofNat_of_zero_le k1
      obtain ⟨fl, fok⟩ := hi.fo _ F e
      have hxn : xn < np := by omega
      have hdc := dc_le s.fv np
      have hdc0 := dc_le fv np
      have hput := dc_put (f := s.fv) (x := ⟨(s.fv xn).g, (s.fv xn).v, [], 0, (s.fv xn).pins⟩) rfl np xn hxn hf
      obtain ⟨c1, c2⟩ := hi.cc
      have hb := hi.bb
      have hfe := hF _ F e
      have hg0 : 0 ≤ (s.fv xn).g := (pgOk_parts fok).2.2.1
      refine (fl_store hi.pl hn h3 (by omega) xn hxn e HB PB CB hz s.cnt hi.hb hi.pb hi.cb hi.cf ⟨by omega, by omega⟩ ⟨hCB.1, hCB.2.1, hCB.2.2.1, fun q => hfe.1 q.symm, hCB.2.2.2⟩ (fun i F' ei => (hF i F' ei).1) (fun i F' r ei hr => hR i F' r ei (by rw [← (hi.vs i).1]; exact hr)) hf (by omega) fl fok).mono ?_
      rintro y w' ⟨rfl, hp, hc, hfz, hkp⟩
      have kc : ∀ {b i : Nat} {v : Value}, b ≠ P → b ≠ L → b ≠ M → b ≠ F → b ≠ CB → W'.cell? ⟨b, i, none⟩ = some v → w'.cell? ⟨b, i, none⟩ = some v := fun {b i v} h1 h2 h3 h4 h5 hcc => (World.cell?_of_block (a := ⟨b, i, none⟩) (hkp b (Dv.block_lt hcc) h1 h2 h3 h4 h5)).trans hcc
      refine ⟨rfl, hp, by show s.B + 14 + 14 * dc np (updV s.fv (xn : Int) ⟨(s.fv xn).g, (s.fv xn).v, [], 0, (s.fv xn).pins⟩) = _; omega, ⟨by show (s.cnt + 1) + ((dc np (updV s.fv (xn : Int) ⟨(s.fv xn).g, (s.fv xn).v, [], 0, (s.fv xn).pins⟩) : Nat) : Int) = _; omega, by show 0 ≤ s.cnt + 1; omega⟩, fun i F' ei => ?_, fun j hj => ?_, fun i => ?_, ?_, kc hHB.1 hHB.2.1 hHB.2.2.1 (fun q => hfe.2.1 q.symm) hHB.2.2.2 hi.hb, kc hPB.1 hPB.2.1 hPB.2.2.1 (fun q => hfe.2.2 q.symm) hPB.2.2.2 hi.pb, hc, hfz⟩
      · show (updV s.fv _ _ i).l = [] ∧ pgOk i (updV s.fv _ _ i).g [] = true
        unfold updV
        by_cases q : i = (xn : Int)
        · rw [if_pos q, q]; exact ⟨rfl, fok⟩
        · rw [if_neg q]; exact hi.fo i F' ei
      · show (setPg s.now xn _ j).2 = [] ∧ 0 ≤ (setPg s.now xn _ j).1 ∧ (setPg s.now xn _ j).1 ≤ H
        unfold setPg
        by_cases q : j = xn
        · rw [if_pos q]; exact ⟨rfl, hg0, by
            show (s.fv xn).g ≤ H
            have h1 := hH _ F e
            rw [← (hi.vs _).2] at h1
            exact h1 (by omega)⟩
        · rw [if_neg q]; exact hi.nw j hj
      · show (updV s.fv _ _ i).v = _ ∧ (updV s.fv _ _ i).g = _
        unfold updV
        by_cases q : i = (xn : Int)
        · rw [if_pos q, q]; exact hi.vs _
        · rw [if_neg q]; exact hi.vs i
      · rcases hi.rw with hnil | ⟨b, off, ea, hcs⟩
        · exact .inl hnil
        · by_cases hke : ks = []
          · exact .inl hke
          obtain ⟨r1, r2, r3, r4, r5⟩ := hra hke b off ea
          exact .inr ⟨b, off, ea, fun i hi2 => kc r1 r2 r3 (fun q => r5 _ F e q.symm) r4 (hcs i hi2)⟩
  · rw [if_pos hf]
    refine (fl_clean hi.pl x e HB PB CB hf).mono ?_
    rintro y w' ⟨rfl, rfl⟩
    exact ⟨rfl, hi⟩
end
end Go.Proofs.YtkemhkmabbladaaGreatDoor

namespace Go.Proofs.YtkemhkmabbladaaGreatDoor
open Go.RowKit
section
variable {w W X : World} {D P L M n B T np Q room MF k : Nat} {now : Nat → Pg} {o : Int → Option Nat} {fv : Int → FrD}
/-- What Flush leaves. -/
def FlP (w : World) (D P L M n B T np Q room MF k : Nat) (o : Int → Option Nat) (fv : Int → FrD) (H : Int) (x : Ending) (w' : World) : Prop :=
  (∃ cn e : Int, x = .returned (.tuple #[.int .i64 cn, .int .i64 e])) ∧ ∃ B' now' fv', PlS w w' D P L M n B' T np now' Q room MF k o fv' ∧ B' ≤ B + 14 * np ∧ FrOk o fv' ∧ NwOk np now' H ∧ ∀ i, (fv' i).v = (fv i).v ∧ (fv' i).g = (fv i).g
set_option maxRecDepth 100000 in
set_option maxHeartbeats 4000000 in
theorem flush_list (h : PlS w W D P L M n B T np now Q room MF k o fv) (hn : n ≤ 4096) (h3 : 5 + 4 * np ≤ n) (hnp : np ≤ 64) (hB : B + 14 * np ≤ 890000) (hz H : Int) (hH : ∀ i F, o i = some F → (fv i).g ≤ hz → (fv i).g ≤ H) (hfo : FrOk o fv) (hnw : NwOk np now H) (a : Option Addr) (ks : List Int) (c : Nat) (hkl0 : 0 < ks.length) (hkl : ks.length ≤ 1000) (hkw : ∀ x ∈ ks, (Lit.int .i64 x).wf = true) (hrow : IRow W a ks) (hra0 : ∀ b off, a = some ⟨b, off, none⟩ → b ≠ P ∧ b ≠ L ∧ b ≠ M ∧ b < W.heap.size ∧ ∀ i F', o i = some F' → F' ≠ b) :
    Calls Tryz.prog 15 #[.pointer (some ⟨Q, 0, none⟩), .int .i64 hz, .slice a ks.length c] W (FlP w D P L M n B T np Q room MF k o fv H) := by
  have hb1 := (Below.refl W.heap.size W).alloc (Nat.le_refl _) (.cells #[.pointer (some ⟨Q, 0, none⟩)] 25)
  have hs1 : (W.alloc (.cells #[.pointer (some ⟨Q, 0, none⟩)] 25)).heap.size = W.heap.size + 1 := by simp
  have hb2 := hb1.alloc hb1.size (.cells #[.int .i64 hz] 3)
  have p0 : ((W.alloc (.cells #[.pointer (some ⟨Q, 0, none⟩)] 25)).alloc (.cells #[.int .i64 hz] 3)).cell? ⟨W.heap.size, 0, none⟩ = some (.pointer (some ⟨Q, 0, none⟩)) := Dv.keep_cell ((Below.refl _ _).alloc (Nat.le_refl _) _) (Dv.new_cell rfl rfl)
  have p1 : ((W.alloc (.cells #[.pointer (some ⟨Q, 0, none⟩)] 25)).alloc (.cells #[.int .i64 hz] 3)).cell? ⟨W.heap.size + 1, 0, none⟩ = some (.int .i64 hz) := Dv.new_cell hs1.symm rfl
  have h1 := h.below hb2
  have L0 := Lib.hid h.lts
  have L1 := Lib.hid h.tk.lts
  have L2 := Lib.hid h.bw.size
  have LR := Lib.hid (fun i F' r (ei : o i = some F') (hr : (fv i).v.ownBlock = some r) => row_lt (h.fr i F' ei).row hr)
  clear hs1 hb1
  have hir := hrow.below hb2
  have HW1 : Hid (W.heap.size + 2 ≤ ((W.alloc (.cells #[.pointer (some ⟨Q, 0, none⟩)] 25)).alloc (.cells #[.int .i64 hz] 3)).heap.size) := by rw [Hid]; simp
  clear h hrow
  obtain ⟨kl, hkle⟩ : ∃ kl, kl = ks.length := ⟨_, rfl⟩
  have hkl0 : (0 : Int) < (kl : Int) := by omega
  have hkl1 : kl ≤ 1000 := by omega
  have HKL := Lib.hid hkle
  rw [← hkle]
  clear hkle
  go_enter Tryz.func15, Tryz.ntmps15
  go_upto_region 1 with fail
  generalize (W.alloc (.cells #[.pointer (some ⟨Q, 0, none⟩)] 25)).alloc (.cells #[.int .i64 hz] 3) = w1 at *
  have hw1 := HW1.out
  have hb3 := (Below.refl w1.heap.size w1).alloc (Nat.le_refl _) (.cells #[.int .i64 0] 3)
  have h3' := h1.below hb3
  have hir3 := hir.below hb3
  have q0 := Dv.keep_cell hb3 p0
  have q1 := Dv.keep_cell hb3 p1
  have hra : ks ≠ [] → ∀ b off, a = some ⟨b, off, none⟩ → b ≠ P ∧ b ≠ L ∧ b ≠ M ∧ b ≠ w1.heap.size ∧ ∀ i F', o i = some F' → F' ≠ b := fun _ b off ea => by
    obtain ⟨r1, r2, r3, r4, r5⟩ := hra0 b off ea
    exact ⟨r1, r2, r3, by omega, r5⟩
  clear h1 hir p0 p1 hb2 hb3 hra0
  have q2 : (w1.alloc (.cells #[.int .i64 0] 3)).cell? ⟨w1.heap.size, 0, none⟩ = some (.int .i64 0) := Dv.new_cell rfl rfl
  have q2f : (w1.alloc (.cells #[.int .i64 0] 3)).frozen? ⟨w1.heap.size, 0, none⟩ = false := World.frozen?_alloc_at _ _ _ _ rfl
  have l0 := L0.out
  have l1 := L1.out
  have l2 := L2.out
  have KE := Lib.hid (each_any (flR hz) (fun _ => o)
    (fun (s : FlSt) W' => FlI w W W' D P L M n B T np Q room MF k o fv a ks hz H (W.heap.size + 1) W.heap.size w1.heap.size s)
    Q MF 48 #[.pointer (some ⟨W.heap.size + 1, 0, none⟩), .pointer (some ⟨W.heap.size, 0, none⟩), .pointer (some ⟨w1.heap.size, 0, none⟩)] a ks c ⟨B, now, fv, 0⟩ (w1.alloc (.cells #[.int .i64 0] 3))
    ⟨h3', rfl, ⟨Int.zero_add _, Int.le_refl _⟩, hfo, hnw, fun _ => ⟨rfl, rfl⟩, hir3, q1, q0, q2, q2f⟩ hkl hkw (enters_of Tryz.func48 (by kernel_rfl) rfl)
    (fun s W' hi => ⟨hi.pl.q2, ⟨k, hi.pl.mp⟩, hi.rw⟩)
    (fun s W' x F hi hx e => fl_any hn h3 hnp hB hH ⟨by omega, by omega, by omega, by omega⟩ (fun i F' ei => by have := l0.2.2 i F' ei; omega) (fun i F' r ei hr => by have := LR.out i F' r ei hr; omega) ⟨by omega, by omega, by omega, by omega⟩ ⟨by omega, by omega, by omega, by omega⟩ hra hi x e))
  clear h3' hir3 q1 q2 q2f l0 l1 l2 L0 L1 L2 LR hfo hnw hkw hra HW1
  rw [← HKL.out] at KE
  go_upto_region 4 with fail
  generalize w1.alloc (.cells #[.int .i64 0] 3) = Y at *
  go_wp2_with fail
  refine KE.out.mono ?_
  rintro x w5 ⟨rfl, hi5⟩
  have HI := Lib.hid hi5
  have c5 := hi5.cb
  generalize (eachR (flR hz) (fun (s : FlSt) x => (o x).isSome) ks ⟨B, now, fv, 0⟩) = O at *
  obtain ⟨e5, s5⟩ := O
  dsimp only at HI c5 ⊢
  obtain ⟨sB, sn, sf, sc⟩ := s5
  dsimp only at c5
  clear hi5 KE q0
  go_wp2
  have hdc := dc_le fv np
  have hbb := HI.out.bb
  exact bodyPost_ret (v := .tuple #[.int .i64 sc, .int .i64 e5]) (by simp [results, Tryz.results15, go_sem]) rfl ⟨⟨_, _, rfl⟩, sB, sn, sf, HI.out.pl, by dsimp only at hbb; omega, HI.out.fo, HI.out.nw, HI.out.vs⟩
set_option maxRecDepth 100000 in
set_option maxHeartbeats 4000000 in
theorem flush_none (na : Option Addr) (nc : Nat) (h : PlS w W D P L M n B T np now Q room MF k o fv) (hn : n ≤ 4096) (h3 : 5 + 4 * np ≤ n) (hnp : np ≤ 64) (hB : B + 14 * np ≤ 890000) (hz H : Int) (hH : ∀ i F, o i = some F → (fv i).g ≤ hz → (fv i).g ≤ H) (hfo : FrOk o fv) (hnw : NwOk np now H) {ks0 : List Int} (hk : KeysOf o ks0) (hwf : ∀ i ∈ ks0, (Lit.int .i64 i).wf = true) :
    Calls Tryz.prog 15 #[.pointer (some ⟨Q, 0, none⟩), .int .i64 hz, .slice na 0 nc] W (FlP w D P L M n B T np Q room MF k o fv H) := by
  have hb1 := (Below.refl W.heap.size W).alloc (Nat.le_refl _) (.cells #[.pointer (some ⟨Q, 0, none⟩)] 25)
  have hs1 : (W.alloc (.cells #[.pointer (some ⟨Q, 0, none⟩)] 25)).heap.size = W.heap.size + 1 := by simp
  have hb2 := hb1.alloc hb1.size (.cells #[.int .i64 hz] 3)
  have p0 : ((W.alloc (.cells #[.pointer (some ⟨Q, 0, none⟩)] 25)).alloc (.cells #[.int .i64 hz] 3)).cell? ⟨W.heap.size, 0, none⟩ = some (.pointer (some ⟨Q, 0, none⟩)) := Dv.keep_cell ((Below.refl _ _).alloc (Nat.le_refl _) _) (Dv.new_cell rfl rfl)
  have p1 : ((W.alloc (.cells #[.pointer (some ⟨Q, 0, none⟩)] 25)).alloc (.cells #[.int .i64 hz] 3)).cell? ⟨W.heap.size + 1, 0, none⟩ = some (.int .i64 hz) := Dv.new_cell hs1.symm rfl
  have h1 := h.below hb2
  have L0 := Lib.hid h.lts
  have L1 := Lib.hid h.tk.lts
  have L2 := Lib.hid h.bw.size
  have LR := Lib.hid (fun i F' r (ei : o i = some F') (hr : (fv i).v.ownBlock = some r) => row_lt (h.fr i F' ei).row hr)
  clear hs1 hb1
  have HW2 : Hid (W.heap.size + 2 ≤ ((W.alloc (.cells #[.pointer (some ⟨Q, 0, none⟩)] 25)).alloc (.cells #[.int .i64 hz] 3)).heap.size) := by rw [Hid]; simp
  clear h
  go_enter Tryz.func15, Tryz.ntmps15
  go_upto_region 1 with fail
  generalize (W.alloc (.cells #[.pointer (some ⟨Q, 0, none⟩)] 25)).alloc (.cells #[.int .i64 hz] 3) = V at *
  have KN := Lib.hid (nums_any h1 hk hwf)
  have hmem : ∀ x ∈ dirtyNo fv ks0, x ∈ ks0 := fun x hx => by
    unfold dirtyNo dirtyOf at hx
    simp only [List.map_map, List.mem_map, List.mem_filter] at hx
    obtain ⟨y, hy, rfl⟩ := hx
    exact hy.1
  have hkl : (dirtyNo fv ks0).length ≤ 1000 := by
    have h1 := dirtyOf_len fv ks0
    have h2 := hk.few
    unfold dirtyNo; rw [List.length_map]; omega
  have hkw : ∀ x ∈ dirtyNo fv ks0, (Lit.int .i64 x).wf = true := fun x hx => hwf x (hmem x hx)
  obtain ⟨ks, hks⟩ : ∃ ks, ks = dirtyNo fv ks0 := ⟨_, rfl⟩
  rw [← hks] at KN hkl hkw
  clear hks hmem hk hwf
  have H1 := Lib.hid h1
  have HB2 := Lib.hid hb2
  clear h1 hb2
  go_wp2_with fail
  refine KN.out.mono ?_
  rintro x w1 ⟨a, c, rfl, hir, hlo, hb1⟩
  have HW1 : Hid (W.heap.size + 2 ≤ w1.heap.size) := Nat.le_trans HW2.out hb1.size
  have hw1 := HW1.out
  have hw2 := HW2.out
  have hb3 := (Below.refl w1.heap.size w1).alloc (Nat.le_refl _) (.cells #[.int .i64 0] 3)
  have h3' := (H1.out.below hb1).below hb3
  have hir3 := hir.below hb3
  have q0 := Dv.keep_cell hb3 (Dv.keep_cell hb1 p0)
  have q1 := Dv.keep_cell hb3 (Dv.keep_cell hb1 p1)
  have hra : ks ≠ [] → ∀ b off, a = some ⟨b, off, none⟩ → b ≠ P ∧ b ≠ L ∧ b ≠ M ∧ b ≠ w1.heap.size ∧ ∀ i F', o i = some F' → F' ≠ b := fun hne b off ea => by
    have r0 := hlo b off ea
    have r1 : b < w1.heap.size := by
      rcases hir with hnil | ⟨b2, off2, ea2, hcs⟩
      · exact absurd hnil hne
      · rw [ea] at ea2
        injection ea2 with ea2
        injection ea2 with ea2 _
        subst ea2
        exact Dv.block_lt (hcs 0 (List.length_pos_iff.2 hne))
    have l0 := L0.out
    have l1 := L1.out
    exact ⟨by omega, by omega, by omega, by omega, fun i F' ei => by have := l0.2.2 i F' ei; omega⟩
  clear hir p0 p1 hb3 hb1 hlo KN H1 HB2 HW2 hw2
  have q2 : (w1.alloc (.cells #[.int .i64 0] 3)).cell? ⟨w1.heap.size, 0, none⟩ = some (.int .i64 0) := Dv.new_cell rfl rfl
  have q2f : (w1.alloc (.cells #[.int .i64 0] 3)).frozen? ⟨w1.heap.size, 0, none⟩ = false := World.frozen?_alloc_at _ _ _ _ rfl
  have l0 := L0.out
  have l1 := L1.out
  have l2 := L2.out
  have KE := Lib.hid (each_any (flR hz) (fun _ => o)
    (fun (s : FlSt) W' => FlI w W W' D P L M n B T np Q room MF k o fv a ks hz H (W.heap.size + 1) W.heap.size w1.heap.size s)
    Q MF 48 #[.pointer (some ⟨W.heap.size + 1, 0, none⟩), .pointer (some ⟨W.heap.size, 0, none⟩), .pointer (some ⟨w1.heap.size, 0, none⟩)] a ks c ⟨B, now, fv, 0⟩ (w1.alloc (.cells #[.int .i64 0] 3))
    ⟨h3', rfl, ⟨Int.zero_add _, Int.le_refl _⟩, hfo, hnw, fun _ => ⟨rfl, rfl⟩, hir3, q1, q0, q2, q2f⟩ hkl hkw (enters_of Tryz.func48 (by kernel_rfl) rfl)
    (fun s W' hi => ⟨hi.pl.q2, ⟨k, hi.pl.mp⟩, hi.rw⟩)
    (fun s W' x F hi hx e => fl_any hn h3 hnp hB hH ⟨by omega, by omega, by omega, by omega⟩ (fun i F' ei => by have := l0.2.2 i F' ei; omega) (fun i F' r ei hr => by have := LR.out i F' r ei hr; omega) ⟨by omega, by omega, by omega, by omega⟩ ⟨by omega, by omega, by omega, by omega⟩ hra hi x e))
  clear h3' hir3 q1 q2 q2f l0 l1 l2 L0 L1 L2 LR hfo hnw hkw hra HW1
  go_upto_region 4 with fail
  generalize w1.alloc (.cells #[.int .i64 0] 3) = Y at *
  go_wp2_with fail
  refine KE.out.mono ?_
  rintro x w5 ⟨rfl, hi5⟩
  have HI := Lib.hid hi5
  have c5 := hi5.cb
  generalize (eachR (flR hz) (fun (s : FlSt) x => (o x).isSome) ks ⟨B, now, fv, 0⟩) = O at *
  obtain ⟨e5, s5⟩ := O
  dsimp only at HI c5 ⊢
  obtain ⟨sB, sn, sf, sc⟩ := s5
  dsimp only at c5
  clear hi5 KE q0
  go_wp2
  have hdc := dc_le fv np
  have hbb := HI.out.bb
  exact bodyPost_ret (v := .tuple #[.int .i64 sc, .int .i64 e5]) (by simp [results, Tryz.results15, go_sem]) rfl ⟨⟨_, _, rfl⟩, sB, sn, sf, HI.out.pl, by dsimp only at hbb; omega, HI.out.fo, HI.out.nw, HI.out.vs⟩
end
end Go.Proofs.YtkemhkmabbladaaGreatDoor

namespace Go.Proofs.YtkemhkmabbladaaGreatDoor
open Go.RowKit
section
variable {w W X : World} {D P L M n B T np Q room MF k : Nat} {now : Nat → Pg} {o : Int → Option Nat} {fv : Int → FrD}
theorem PlS.keysOf (h : PlS w W D P L M n B T np now Q room MF k o fv) (hnp : np ≤ 1000) : ∃ ks, KeysOf o ks ∧ ∀ i ∈ ks, (Lit.int .i64 i).wf = true := by
  refine ⟨((List.range np).map (fun (j : Nat) => (j : Int))).filter (fun i => (o i).isSome), ⟨?_, ?_, ?_⟩, ?_⟩
  · exact List.Pairwise.filter _ (List.pairwise_map.2 (List.pairwise_lt_range.imp (fun h => by omega)))
  · intro i
    rw [List.mem_filter, List.mem_map]
    constructor
    · exact fun h => h.2
    · intro hs
      obtain ⟨k1, k2⟩ := h.keys i hs
      exact ⟨⟨i.toNat, List.mem_range.2 (by omega), by omega⟩, hs⟩
  · refine Nat.le_trans (List.length_filter_le _ _) ?_
    rw [List.length_map, List.length_range]; exact hnp
  · intro i hi
    rw [List.mem_filter, List.mem_map] at hi
    obtain ⟨⟨j, hj, rfl⟩, _⟩ := hi
    have := List.mem_range.1 hj
    exact WalkArith.wf_i64 (by omega)
set_option maxRecDepth 100000 in
set_option maxHeartbeats 4000000 in
theorem get_out (h : PlS w W D P L M n B T np now Q room MF k o fv) (no : Int) (hwf : (Lit.int .i64 no).wf = true) (hno : no < 0 ∨ (np : Int) ≤ no) :
    Calls Tryz.prog 13 #[.pointer (some ⟨Q, 0, none⟩), .int .i64 no] W fun x w' => (∃ e : Int, e ≠ 0 ∧ x = .returned (.tuple #[.agg #[.int .i64 0, .int .i64 0, .slice none 0 0], .int .i64 e])) ∧ Below W.heap.size W w' := by
  have e : o no = none := by
    cases q : o no with
    | none => rfl
    | some F => have := h.keys no (by rw [q]; rfl); omega
  have hb0 := (Below.refl W.heap.size W).alloc (Nat.le_refl _) (.cells #[.int .i64 0, .int .i64 0, .slice none 0 0] 36)
  have HR0 := Lib.hid (tkR_new W 36)
  have h0 := h.below hb0
  have q0 := h0.q0
  have q2 := h0.q2
  have lk := h0.mp.lookOk no hwf
  rw [e] at lk
  rw [show frV none = Value.pointer none from rfl, show (none : Option Nat).isSome = false from rfl] at lk
  obtain ⟨sd, hsd, _⟩ := h0.tk
  have KP := Lib.hid (page_out hsd no hno)
  clear h h0 e hsd
  go_enter Tryz.func13, Tryz.ntmps13
  go_upto_region 1 with fail
  generalize W.alloc (.cells #[.int .i64 0, .int .i64 0, .slice none 0 0] 36) = X0 at *
  go_wp2_with fail
  refine KP.out.mono ?_
  rintro x w1 ⟨rfl, hb1⟩
  have HR1 := HR0.out.below hb1
  obtain ⟨r0, r1, r2, rf, _⟩ := HR1
  have HB := Lib.hid (hb0.trans (hb1.mono hb0.size))
  clear KP HR0 q0 q2 lk hb0 hb1
  go_upto_region 7 with fail
  have hby := (Below.refl w1.heap.size w1).alloc (Nat.le_refl _) (.cells #[.int .i64 0, .int .i64 0, .slice none 0 0] 36)
  have rf : ∀ i, (w1.alloc (.cells #[.int .i64 0, .int .i64 0, .slice none 0 0] 36)).frozen? ⟨W.heap.size, i, none⟩ = false := fun i => (hby.frozen (p := ⟨W.heap.size, i, none⟩) (show W.heap.size < w1.heap.size from Dv.block_lt r0)).trans (rf i)
  have r0 := Dv.keep_cell hby r0
  have r1 := Dv.keep_cell hby r1
  have r2 := Dv.keep_cell hby r2
  have HB2 := Lib.hid (HB.out.trans (hby.mono HB.out.size))
  clear hby HB
  generalize w1.alloc (.cells #[.int .i64 0, .int .i64 0, .slice none 0 0] 36) = Y at *
  go_wp2
  obtain ⟨Z, hZ, x0, x1, x2, hbZ, _⟩ := set3 (v0 := .int .i64 0) (v1 := .int .i64 0) (v2 := .slice none 0 0) HB2.out (Nat.le_refl _) r0 r1 r2
  rw [← hZ]
  refine bodyPost_ret (v := .tuple #[.agg #[.int .i64 0, .int .i64 0, .slice none 0 0], .int .i64 7]) ?_ rfl ⟨⟨7, by decide, rfl⟩, hbZ⟩
  simp [results, Tryz.results13, go_sem, x0, x1, x2]
end
end Go.Proofs.YtkemhkmabbladaaGreatDoor

namespace Go.Proofs.YtkemhkmabbladaaGreatDoor
open Go.RowKit
section
variable {w W X : World} {D P L M n B T np Q room MF k : Nat} {now : Nat → Pg} {o : Int → Option Nat} {fv : Int → FrD}
theorem pgOk_nil {no g : Int} (h1 : 0 ≤ no) (h2 : no < 64) (h3 : 0 ≤ g) (h4 : g ≤ 1000000) : pgOk no g [] = true := by
  unfold pgOk
  simp [cellsB]
  omega
/-- H: the horizons' greatest; G: the numbers' greatest; no: a number that is at hand. -/
def Ah (w W : World) (D P L M n T np Q room MF : Nat) (H G : Int) (b kk : Nat) (no : Option Int) : Prop :=
  ∃ B now k o fv, PlS w W D P L M n B T np now Q room MF k o fv ∧ B ≤ b ∧ k ≤ kk ∧ FrOk o fv ∧ (∀ i F, o i = some F → (fv i).g ≤ G) ∧ NwOk np now H ∧ NwOk np now G ∧ ∀ i, no = some i → (o i).isSome = true
theorem Ah.below {H G : Int} {b kk : Nat} {no : Option Int} (h : Ah w W D P L M n T np Q room MF H G b kk no) (hb : Below W.heap.size W X) : Ah w X D P L M n T np Q room MF H G b kk no := by
  obtain ⟨B, now, k, o, fv, h1, h2⟩ := h
  exact ⟨B, now, k, o, fv, h1.below hb, h2⟩
theorem Ah.bw {H G : Int} {b kk : Nat} {no : Option Int} (h : Ah w W D P L M n T np Q room MF H G b kk no) : Below w.heap.size w W := by
  obtain ⟨B, now, k, o, fv, h1, _⟩ := h
  exact h1.bw
theorem Ah.more {H G H' G' : Int} {b kk b' kk' : Nat} {no : Option Int} (h : Ah w W D P L M n T np Q room MF H G b kk no) (hH : H ≤ H') (hG : G ≤ G') (hb : b ≤ b') (hk : kk ≤ kk') : Ah w W D P L M n T np Q room MF H' G' b' kk' none := by
  obtain ⟨B, now, k, o, fv, h1, h2, h3, h4, h5, h6, h7, _⟩ := h
  refine ⟨B, now, k, o, fv, h1, by omega, by omega, h4, fun i F e => by have := h5 i F e; omega, fun j hj => ?_, fun j hj => ?_, fun i e => by cases e⟩
  · obtain ⟨a1, a2, a3⟩ := h6 j hj; exact ⟨a1, a2, by omega⟩
  · obtain ⟨a1, a2, a3⟩ := h7 j hj; exact ⟨a1, a2, by omega⟩
/-- What Get tells. -/
def GetS (w : World) (D P L M n T np Q room MF : Nat) (H G : Int) (b kk : Nat) (no : Int) (x : Ending) (w' : World) : Prop :=
  (∃ g a c, x = .returned (.tuple #[.agg #[.int .i64 no, .int .i64 g, .slice a 0 c], .int .i64 0]) ∧ 0 ≤ no ∧ no < np ∧ 0 ≤ g ∧ g ≤ G ∧ (a = none ∨ ∃ b off, a = some ⟨b, off, none⟩) ∧ Ah w w' D P L M n T np Q room MF H G b (kk + 1) (some no)) ∨
  (∃ e : Int, e ≠ 0 ∧ x = .returned (.tuple #[.agg #[.int .i64 0, .int .i64 0, .slice none 0 0], .int .i64 e]) ∧ Ah w w' D P L M n T np Q room MF H G b (kk + 1) none)
theorem ah_get {H G : Int} {b kk : Nat} (h : Ah w W D P L M n T np Q room MF H G b kk none) (hkk : kk ≤ 900) (hn : n ≤ 4096) (hfit : 5 + 4 * np ≤ n) (hnp : np ≤ 64) (hG : G ≤ 1000000) (no : Int) (hwf : (Lit.int .i64 no).wf = true) :
    Calls Tryz.prog 13 #[.pointer (some ⟨Q, 0, none⟩), .int .i64 no] W (GetS w D P L M n T np Q room MF H G b kk no) := by
  obtain ⟨B, now, k, o, fv, h1, h2, h3, h4, h5, h6, h7, _⟩ := h
  by_cases hno : no < 0 ∨ (np : Int) ≤ no
  · refine (get_out h1 no hwf hno).mono ?_
    rintro x w' ⟨⟨e, he, rfl⟩, hb⟩
    exact .inr ⟨e, he, rfl, B, now, k, o, fv, h1.below hb, h2, by omega, h4, h5, h6, h7, fun i e => by cases e⟩
  · obtain ⟨nn, rfl⟩ := Int.eq_ofNat_of_zero_le (show 0 ≤ no by omega)
    have hnn : nn < np := by omega
    cases hq : o (nn : Int) with
    | some F =>
      refine (get_hit h1 nn hwf hq).mono ?_
      rintro x w' ⟨⟨a, c, hx, hrow⟩, hp, hb⟩
      obtain ⟨f1, f2⟩ := h4 _ F hq
      rw [f1] at hx hrow
      have hz : a = none ∨ ∃ b off, a = some ⟨b, off, none⟩ := by
        obtain ⟨a', c', e, _, hh⟩ := row_form hrow
        injection e with e1 e2 e3
        subst e1
        exact hh
      exact .inl ⟨_, a, c, hx, by omega, by omega, (pgOk_parts f2).2.2.1, h5 _ F hq, hz, B, now, k, o, fv, hp, h2, by omega, h4, h5, h6, h7, fun i e => by injection e with e; rw [← e, hq]; rfl⟩
    | none =>
      obtain ⟨ks, hks, hwfs⟩ := h1.keysOf (by omega)
      obtain ⟨n1, n2, n3⟩ := h7 nn hnn
      refine (get_any h1 hks hwfs (by omega) hn hfit nn hnn hq (by rw [n1]; simp)).mono ?_
      rintro x w' (⟨⟨a, c, hx, hrow⟩, o2, F, v, hsub, hp⟩ | ⟨e, he, rfl, o2, hsub, hp⟩)
      · rw [n1] at hx hrow
        have hz : a = none ∨ ∃ b off, a = some ⟨b, off, none⟩ := by
          obtain ⟨a', c', e, _, hh⟩ := row_form hrow
          injection e with e1 e2 e3
          subst e1
          exact hh
        refine .inl ⟨_, a, c, hx, by omega, by omega, n2, n3, hz, B, now, k + 1, _, _, hp, h2, by omega, fun i F' e => ?_, fun i F' e => ?_, h6, h7, fun i e => ?_⟩
        · unfold updF at e; unfold updV
          by_cases q : i = (nn : Int)
          · rw [if_pos q, q]; exact ⟨n1, pgOk_nil (by omega) (by omega) n2 (by show (now nn).1 ≤ 1000000; omega)⟩
          · rw [if_neg q] at e ⊢; exact h4 i F' (hsub i F' e)
        · unfold updF at e; unfold updV
          by_cases q : i = (nn : Int)
          · rw [if_pos q]; exact n3
          · rw [if_neg q] at e ⊢; exact h5 i F' (hsub i F' e)
        · injection e with e; rw [← e]; unfold updF; rw [if_pos rfl]; rfl
      · exact .inr ⟨e, he, rfl, B, now, k, o2, fv, hp, h2, by omega, fun i F' e => h4 i F' (hsub i F' e), fun i F' e => h5 i F' (hsub i F' e), h6, h7, fun i e => by cases e⟩
theorem ah_change {H G : Int} {b kk : Nat} {no : Int} (h : Ah w W D P L M n T np Q room MF H G b kk (some no)) (hnp : np ≤ 64) (hwf : (Lit.int .i64 no).wf = true) (g2 : Int) (h0 : 0 ≤ g2) (hg : G < g2) (hg2 : g2 ≤ 1000000) (a2 : Option Addr) (c2 : Nat) (hz : a2 = none ∨ ∃ b off, a2 = some ⟨b, off, none⟩) :
    Calls Tryz.prog 14 #[.pointer (some ⟨Q, 0, none⟩), .agg #[.int .i64 no, .int .i64 g2, .slice a2 0 c2], .int .i64 g2] W fun x w' => x = .returned (.int .i64 0) ∧ Ah w w' D P L M n T np Q room MF H g2 b kk none := by
  obtain ⟨B, now, k, o, fv, h1, h2, h3, h4, h5, h6, h7, h8⟩ := h
  obtain ⟨F, hF⟩ := Option.isSome_iff_exists.1 (h8 no rfl)
  obtain ⟨k1, k2⟩ := h1.keys no (h8 no rfl)
  have hgf := h5 no F hF
  have hok := pgOk_nil k1 (show no < 64 by omega) h0 hg2
  refine (change_none h1 no hwf hF g2 a2 c2 hz hok (by omega)).mono ?_
  rintro x w' ⟨rfl, ⟨v, hp⟩, _⟩
  refine ⟨rfl, B, now, k, o, _, hp, h2, h3, fun i F' e => ?_, fun i F' e => ?_, h6, fun j hj => ?_, fun i e => by cases e⟩
  · unfold updV chFr
    by_cases q : i = no
    · rw [if_pos q, q]; exact ⟨rfl, hok⟩
    · rw [if_neg q]; exact h4 i F' e
  · unfold updV chFr
    by_cases q : i = no
    · rw [if_pos q]; exact Int.le_refl _
    · rw [if_neg q]; have := h5 i F' e; omega
  · obtain ⟨a1, a2, a3⟩ := h7 j hj; exact ⟨a1, a2, by omega⟩
theorem ah_evict {H G : Int} {b kk : Nat} (h : Ah w W D P L M n T np Q room MF H G b kk none) (hnp : np ≤ 64) (a : Option Addr) (ks : List Int) (c : Nat) (hl : ks.length ≤ 1000) (hw : ∀ x ∈ ks, (Lit.int .i64 x).wf = true) (hrow : IRow W a ks) :
    Calls Tryz.prog 16 #[.pointer (some ⟨Q, 0, none⟩), .slice a ks.length c] W fun x w' => (∃ e : Int, x = .returned (.int .i64 e)) ∧ Ah w w' D P L M n T np Q room MF H G b kk none := by
  obtain ⟨B, now, k, o, fv, h1, h2, h3, h4, h5, h6, h7, _⟩ := h
  refine (evict_any h1 (by omega) a ks c hl hw hrow).mono ?_
  rintro x w' ⟨hx, ⟨o2, hp, hsub⟩, _⟩
  exact ⟨hx, B, now, k, o2, fv, hp, h2, h3, fun i F' e => h4 i F' (hsub i F' e), fun i F' e => h5 i F' (hsub i F' e), h6, h7, fun i e => by cases e⟩
theorem ah_flp {H G hz : Int} {b kk : Nat} {B : Nat} {o : Int → Option Nat} {fv : Int → FrD} {k : Nat} (h2 : B ≤ b) (h3 : k ≤ kk) (h5 : ∀ i F, o i = some F → (fv i).g ≤ G) {x : Ending} {w' : World}
    (h : FlP w D P L M n B T np Q room MF k o fv (min (max H hz) G) x w') : (∃ cn e : Int, x = .returned (.tuple #[.int .i64 cn, .int .i64 e])) ∧ Ah w w' D P L M n T np Q room MF (max H hz) G (b + 14 * np) kk none := by
  obtain ⟨hx, B', now', fv', hp, hB, hfo, hnw, hvs⟩ := h
  refine ⟨hx, B', now', k, o, fv', hp, by omega, h3, hfo, fun i F e => by rw [(hvs i).2]; exact h5 i F e, fun j hj => ?_, fun j hj => ?_, fun i e => by cases e⟩
  · obtain ⟨a1, a2, a3⟩ := hnw j hj; exact ⟨a1, a2, by omega⟩
  · obtain ⟨a1, a2, a3⟩ := hnw j hj; exact ⟨a1, a2, by omega⟩
theorem nw_min {H G hz : Int} (h6 : NwOk np now H) (h7 : NwOk np now G) : NwOk np now (min (max H hz) G) := fun j hj => by
  obtain ⟨a1, a2, a3⟩ := h6 j hj
  obtain ⟨_, _, b3⟩ := h7 j hj
  exact ⟨a1, a2, by omega⟩
theorem ah_flush {H G : Int} {b kk : Nat} (h : Ah w W D P L M n T np Q room MF H G b kk none) (hn : n ≤ 4096) (hfit : 5 + 4 * np ≤ n) (hnp : np ≤ 64) (hb : b + 14 * np ≤ 890000) (hz : Int) (a : Option Addr) (ks : List Int) (c : Nat) (hl0 : 0 < ks.length) (hl : ks.length ≤ 1000) (hw : ∀ x ∈ ks, (Lit.int .i64 x).wf = true) (hrow : IRow W a ks) (hra : ∀ b off, a = some ⟨b, off, none⟩ → b < w.heap.size) :
    Calls Tryz.prog 15 #[.pointer (some ⟨Q, 0, none⟩), .int .i64 hz, .slice a ks.length c] W fun x w' => (∃ cn e : Int, x = .returned (.tuple #[.int .i64 cn, .int .i64 e])) ∧ Ah w w' D P L M n T np Q room MF (max H hz) G (b + 14 * np) kk none := by
  obtain ⟨B, now, k, o, fv, h1, h2, h3, h4, h5, h6, h7, _⟩ := h
  have hlo := h1.lo
  have htl := h1.tk.lo
  have hbw := h1.bw.size
  refine (flush_list h1 hn hfit hnp (by omega) hz (min (max H hz) G) (fun i F e hg => by have := h5 i F e; omega) h4 (nw_min h6 h7) a ks c hl0 hl hw hrow (fun b off ea => by
    have := hra b off ea
    exact ⟨by omega, by omega, by omega, by omega, fun i F' e => by have := hlo.2.2 i F' e; omega⟩)).mono ?_
  intro x w' hx
  exact ah_flp h2 h3 h5 hx
theorem ah_flush0 {H G : Int} {b kk : Nat} (h : Ah w W D P L M n T np Q room MF H G b kk none) (hn : n ≤ 4096) (hfit : 5 + 4 * np ≤ n) (hnp : np ≤ 64) (hb : b + 14 * np ≤ 890000) (hz : Int) (na : Option Addr) (nc : Nat) :
    Calls Tryz.prog 15 #[.pointer (some ⟨Q, 0, none⟩), .int .i64 hz, .slice na 0 nc] W fun x w' => (∃ cn e : Int, x = .returned (.tuple #[.int .i64 cn, .int .i64 e])) ∧ Ah w w' D P L M n T np Q room MF (max H hz) G (b + 14 * np) kk none := by
  obtain ⟨B, now, k, o, fv, h1, h2, h3, h4, h5, h6, h7, _⟩ := h
  obtain ⟨ks, hks, hwfs⟩ := h1.keysOf (by omega)
  refine (flush_none na nc h1 hn hfit hnp (by omega) hz (min (max H hz) G) (fun i F e hg => by have := h5 i F e; omega) h4 (nw_min h6 h7) hks hwfs).mono ?_
  intro x w' hx
  exact ah_flp h2 h3 h5 hx
theorem ah_page {H G : Int} {b kk : Nat} (h : Ah w W D P L M n T np Q room MF H G b kk none) (hn : n ≤ 4096) (hfit : 5 + 4 * np ≤ n) (j : Nat) (hj : j < np) :
    Calls Tryz.prog 11 #[.pointer (some ⟨T, 0, none⟩), .int .i64 (j : Int)] W fun x w' => (∃ g a c, x = .returned (.tuple #[.agg #[.int .i64 (j : Int), .int .i64 g, .slice a 0 c], .int .i64 0]) ∧ 0 ≤ g ∧ g ≤ H) ∧ Ah w w' D P L M n T np Q room MF H G b kk none ∧ Below W.heap.size W w' := by
  have h0 := h
  obtain ⟨B, now, k, o, fv, h1, _, _, _, _, h6, _⟩ := h
  obtain ⟨a1, a2, a3⟩ := h6 j hj
  refine (c_page h1.tk (by intro x; cases x) hn hfit j hj).mono ?_
  rintro x w' ⟨_, a, c, hx, _, hb⟩
  rw [a1] at hx
  exact ⟨⟨_, a, c, hx, a2, a3⟩, h0.below hb, hb⟩
end
end Go.Proofs.YtkemhkmabbladaaGreatDoor
