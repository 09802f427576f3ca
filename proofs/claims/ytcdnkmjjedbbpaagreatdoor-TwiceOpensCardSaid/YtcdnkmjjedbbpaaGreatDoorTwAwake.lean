/-
  PAGES ON A DEVICE AS A LAW MEETS THEM: there, armed, cut off, up again; awake of law 12, the document's example.
-/
import Derived.Test.YtcdnkmjjedbbpaaGreatDoorTwo
namespace Go.Proofs.YtcdnkmjjedbbpaaGreatDoor
open Go.RowKit
/-- Pages that are there, the power being as it is told. -/
def Tk (w W : World) (D P L M n B T np : Nat) (now : Nat → Pg) (pm : Pm) : Prop := ∃ s, TwS w W D P L M n B T np s ∧ Still np now s ∧ s.pm = pm
/-- A device behind whose crash it holds of what lasts, whatever is kept. -/
def Tfell (w W : World) (D P L M n B : Nat) (Q : (Nat → List UInt8) → Prop) : Prop := ∃ s, DvB w W D P L M n B s ∧ Safe Q s
/-- A device that is up again. -/
def Tup (w W : World) (D P L M n B : Nat) (Q : (Nat → List UInt8) → Prop) : Prop := ∃ g, DvB w W D P L M n B ⟨.on, g, fun _ => none⟩ ∧ Q g
section
variable {w W : World} {D P L M n B T np : Nat} {now : Nat → Pg} {pm : Pm} {Q : (Nat → List UInt8) → Prop}
theorem Tk.below {X : World} (h : Tk w W D P L M n B T np now pm) (hb : Below W.heap.size W X) : Tk w X D P L M n B T np now pm := by
  obtain ⟨s, h1, h2⟩ := h
  exact ⟨s, h1.below hb, h2⟩
theorem Tfell.below {X : World} (h : Tfell w W D P L M n B Q) (hb : Below W.heap.size W X) : Tfell w X D P L M n B Q := by
  obtain ⟨s, h1, h2⟩ := h
  exact ⟨s, h1.below hb, h2⟩
theorem Tup.below {X : World} (h : Tup w W D P L M n B Q) (hb : Below W.heap.size W X) : Tup w X D P L M n B Q := by
  obtain ⟨s, h1, h2⟩ := h
  exact ⟨s, h1.below hb, h2⟩
theorem Tk.bw (h : Tk w W D P L M n B T np now pm) : Below w.heap.size w W := by obtain ⟨s, h1, _⟩ := h; exact h1.bw
theorem Tfell.bw (h : Tfell w W D P L M n B Q) : Below w.heap.size w W := by obtain ⟨s, h1, _⟩ := h; exact h1.bw
theorem Tup.bw (h : Tup w W D P L M n B Q) : Below w.heap.size w W := by obtain ⟨s, h1, _⟩ := h; exact h1.bw
theorem Tk.lo (h : Tk w W D P L M n B T np now pm) : w.heap.size ≤ P ∧ w.heap.size ≤ L ∧ w.heap.size ≤ M := by obtain ⟨s, h1, _⟩ := h; exact h1.lo
theorem Tk.lts (h : Tk w W D P L M n B T np now pm) : P < W.heap.size ∧ L < W.heap.size ∧ M < W.heap.size := by obtain ⟨s, h1, _⟩ := h; exact h1.d.lts.2
theorem Tk.fell (h : Tk w W D P L M n B T np now pm) : Tfell w W D P L M n B (fun g => Inv np g now) := by
  obtain ⟨s, h1, h2, _⟩ := h
  exact ⟨s, h1.b, h2.safe⟩
theorem Tfell.mono {Q2 : (Nat → List UInt8) → Prop} (h : Tfell w W D P L M n B Q) (hq : ∀ g, Q g → Q2 g) : Tfell w W D P L M n B Q2 := by
  obtain ⟨s, h1, h2⟩ := h
  exact ⟨s, h1, h2.mono hq⟩
/-- A device of its own, formatted. -/
theorem c_new (n : Nat) (w w0 : World) (hb : Below w.heap.size w w0) (ht : Tab w) (h1 : 1 ≤ n) (h2 : n ≤ 4096) : Calls Tryz.prog 8 #[.pointer none, .int .i64 (n : Int)] w0 fun x w' =>
    ∃ D P L M, x = .returned (.pointer (some ⟨D, 0, none⟩)) ∧ DvB w w' D P L M n 0 dsNew ∧ Below w0.heap.size w0 w' := by
  refine (new_s n w0 h1 h2).mono ?_
  rintro x w' ⟨D, P, L, M, q1, q2, q3, q4, rfl, hd, hb2⟩
  have := hb.size
  exact ⟨D, P, L, M, rfl, ⟨hd, hb.trans (hb2.mono hb.size), ⟨by omega, by omega, by omega⟩, ht⟩, hb2⟩
theorem c_fmt (h : DvB w W D P L M n B dsNew) (hB : B + n + 1 ≤ 900000) (hn : n ≤ 4096) (p : Nat) (h1 : 1 ≤ p) (h2 : p ≤ 64) (h3 : 5 + 4 * p ≤ n) :
    Calls Tryz.prog 7 #[.pointer (some ⟨D, 0, none⟩), .int .i64 (p : Int)] W fun x w' => ∃ T, x = .returned (.tuple #[.pointer (some ⟨T, 0, none⟩), .int .i64 0]) ∧ Tk w w' D P L M n (B + n + 1) T p (fun _ => (0, [])) .on ∧ Dv.Fr3 P L M W w' := by
  refine (fmt_s h hB hn p h1 h2 h3).mono ?_
  rintro x w' ⟨T, rfl, hs, hf, _⟩
  exact ⟨T, rfl, ⟨_, hs, still_new, rfl⟩, hf⟩
theorem c_arm (h : Tk w W D P L M n B T np now pm) (hon : pm ≠ .off) (j : Nat) (hj : j ≤ 1000) :
    Calls Tryz.prog 22 #[.pointer (some ⟨D, 0, none⟩), .int .i64 (j : Int)] W fun x w' => x = .returned (.tuple #[]) ∧ Tk w w' D P L M n B T np now (.arm j) ∧ Dv.Fr3 P L M W w' := by
  obtain ⟨s, h1, h2, h3⟩ := h
  refine (arm_s h1.d (by rw [h3]; exact hon) j hj).mono ?_
  rintro x w' ⟨rfl, hd, hf⟩
  exact ⟨rfl, ⟨_, h1.next hd hf, h2.armed _, rfl⟩, hf⟩
theorem c_crash (h : Tfell w W D P L M n B Q) (ka : Option Addr) (ks : List Int) (c : Nat) (hl : ks.length ≤ 1000) (hw : ∀ z ∈ ks, (Lit.int .i64 z).wf = true) (hka : Dv.IntsIn W ka L ks) :
    Calls Tryz.prog 23 #[.pointer (some ⟨D, 0, none⟩), .slice ka ks.length c] W fun x w' => x = .returned (.tuple #[]) ∧ Tup w w' D P L M n B Q ∧ Dv.Fr3 P L M W w' := by
  obtain ⟨s, h1, h2⟩ := h
  refine (crash_s h1.d ka ks c hl hw hka).mono ?_
  rintro x w' ⟨rfl, ⟨g2, hd, hk⟩, hf⟩
  exact ⟨rfl, ⟨g2, h1.next hd hf, h2 g2 hk⟩, hf⟩
theorem c_open (h : Tup w W D P L M n B (fun g => Inv np g now)) (hB : B + 7 ≤ 900000) (hn : n ≤ 4096) (h1 : 1 ≤ np) (h2 : np ≤ 64) (h3 : 5 + 4 * np ≤ n) :
    Calls Tryz.prog 15 #[.pointer (some ⟨D, 0, none⟩), .int .i64 (np : Int)] W fun x w' => ∃ T, x = .returned (.tuple #[.pointer (some ⟨T, 0, none⟩), .int .i64 0]) ∧ Tk w w' D P L M n (B + 7) T np now .on ∧ Dv.Fr3 P L M W w' := by
  obtain ⟨g, hd, hi⟩ := h
  refine (open_s hd hB hn np h1 h2 h3).mono ?_
  rintro x w' ⟨T, rfl, hs, hf, _⟩
  have ho := open_inv (s := ⟨.on, g, fun _ => none⟩) hi (fun _ => rfl) h2
  obtain ⟨e1, e2⟩ := ho.on rfl
  rw [if_pos e1, e1]
  exact ⟨T, rfl, ⟨_, hs, ho.ok e1, e2⟩, hf⟩
/-- What Page answers of a page that is there. -/
theorem c_page (h : Tk w W D P L M n B T np now pm) (hon : pm ≠ .off) (hn : n ≤ 4096) (h3 : 5 + 4 * np ≤ n) (k : Nat) (hk : k < np) :
    Calls Tryz.prog 19 #[.pointer (some ⟨T, 0, none⟩), .int .i64 (k : Int)] W fun x w' => 0 ≤ (now k).1 ∧ ∃ a c, x = .returned (.tuple #[.agg #[.int .i64 (k : Int), .int .i64 (now k).1, .slice a (now k).2.length c], .int .i64 0]) ∧ RowC w' W.heap.size (.slice a (now k).2.length c) (now k).2 ∧ Below W.heap.size W w' := by
  obtain ⟨s, h1, h2, h4⟩ := h
  obtain ⟨e, h0⟩ := home_at (h2.homes k hk (fun f => f))
  have hp := page_s h1 (by rw [h4]; exact hon) hn h3 k hk
  rw [vw_none h2.loose, e] at hp
  refine hp.mono ?_
  rintro x w' ⟨a, c, rfl, hr, hb⟩
  refine ⟨h0, a, c, ?_, hr, hb⟩
  rw [Int.toNat_of_nonneg h0]
end
/-- The document's example: a Store of page 2 that is cut off behind nine uses. -/
def q27 : PgV := ⟨2, 7, none, 0, []⟩
theorem aw_arm (b : ByteArray) (g : Nat → List UInt8) (f : Int → Option (List UInt8)) : (headM 2 b ⟨.arm 9, g, f⟩).1 = true ∧ (storeM 2 b ⟨.arm 9, g, f⟩).1 = false := ⟨rfl, rfl⟩
theorem q27_ok : pgOk 2 7 [] = true := by decide
theorem aw_store {now : Nat → Pg} {s : Ds} (h : Still 4 now s) (hp : s.pm = .arm 9) : ∃ s2, stL 4 [q27] s = (6, s2) ∧ Safe (fun g => Inv 4 g (setPg now 2 (7, []))) s2 := by
  obtain ⟨pm, g, f⟩ := s
  have hp : pm = .arm 9 := hp
  subst hp
  obtain ⟨e1, e2⟩ := aw_arm (pgBytes 2 7 []) g f
  have hc := (headM_ht (n := 4) (now := now) (no := 2) (p := (7, [])) (by omega) q27_ok _ h).1 e1
  have hs := (settleM_ht (n := 4) (now := now) (no := 2) (p := (7, [])) (by omega) q27_ok _ hc).2
  have e3 : storeM 2 (pgBytes 2 7 []) ⟨.arm 9, g, f⟩ = settleM 2 (pgBytes 2 7 []) (headM 2 (pgBytes 2 7 []) ⟨.arm 9, g, f⟩).2 := by rw [storeM_two, sq_t e1]
  rw [e3] at e2
  refine ⟨(settleM 2 (pgBytes 2 7 []) (headM 2 (pgBytes 2 7 []) ⟨.arm 9, g, f⟩).2).2, ?_, hs e2⟩
  have e4 : st1 4 q27 ⟨.arm 9, g, f⟩ = (6, (storeM 2 (pgBytes 2 7 []) ⟨.arm 9, g, f⟩).2) := by
    unfold st1
    rw [if_pos ⟨q27_ok, by show (2 : Int) < 4; omega⟩]
    show (er (storeM 2 (pgBytes 2 7 []) ⟨.arm 9, g, f⟩).1, _) = _
    rw [e3, er_f e2]; rfl
  unfold stL
  rw [if_neg (by rw [e4]; exact (by decide : ¬ (6 : Int) = 0)), e4, e3]
section
variable {w W : World} {D P L M n B T np : Nat} {now : Nat → Pg}
theorem pgs_new {P L M : Nat} (q : PgV) (X : World) (Ty : TypeId) (hl : P < X.heap.size ∧ L < X.heap.size ∧ M < X.heap.size) (ha : ∀ W1, ClsAt W1 q.a q.l) (W1 : World) (hf : Dv.Fr3 P L M (X.alloc (.cells #[.int .i64 q.no, .int .i64 q.g, .slice q.a q.l.length q.c] Ty)) W1) : PgsAt W1 (some ⟨X.heap.size, 0, none⟩) [q] := .inr ⟨X.heap.size, 0, rfl, fun i hi => by
  match i, hi with
  | 0, _ =>
    have h1 : X.heap.size ≠ P := by omega
    have h2 : X.heap.size ≠ L := by omega
    have h3 : X.heap.size ≠ M := by omega
    exact ⟨hf.cell (Dv.new_cell rfl rfl) h1 h2 h3, hf.cell (Dv.new_cell rfl rfl) h1 h2 h3, hf.cell (Dv.new_cell rfl rfl) h1 h2 h3, ha W1⟩⟩
theorem aw_call (h : Tk w W D P L M 50 B T 4 now (.arm 9)) (hB : B + 14 ≤ 900000) :
    Calls Tryz.prog 12 #[.pointer (some ⟨T, 0, none⟩), .slice (some ⟨W.heap.size, 0, none⟩) 1 1] (W.alloc (.cells #[.int .i64 2, .int .i64 7, .slice none 0 0] 36))
      fun x w' => x = .returned (.int .i64 6) ∧ Tfell w w' D P L M 50 (B + 14) (fun g => Inv 4 g (setPg now 2 (7, []))) ∧ Dv.Fr3 P L M (W.alloc (.cells #[.int .i64 2, .int .i64 7, .slice none 0 0] 36)) w' := by
  obtain ⟨s, h1, h2, h3⟩ := h
  obtain ⟨s2, e, hs⟩ := aw_store h2 h3
  have hba := (Below.refl W.heap.size W).alloc (Nat.le_refl _) (.cells #[.int .i64 2, .int .i64 7, .slice none 0 0] 36)
  have := store_l (h1.below hba) (by omega) (by omega) (some ⟨W.heap.size, 0, none⟩) [q27] 1 (by simpa using hB) (fun W1 hf => pgs_new q27 W 36 h1.d.lts.2 (fun _ => .inl rfl) W1 hf) (fun i => by
    match i with
    | 0 => show 0 ≤ maxLen; omega
    | i + 1 => show 0 ≤ maxLen; omega)
  rw [e] at this
  refine this.mono ?_
  rintro x w' ⟨rfl, hs2, hf⟩
  exact ⟨rfl, ⟨s2, hs2.b, hs⟩, hf⟩
end
end Go.Proofs.YtcdnkmjjedbbpaaGreatDoor
