/-
  EQUALITY OF RECORDS; whether a record takes the last change back.
-/
import Derived.Test.YtophbefmlfieeaaTxRcBack
import Derived.Test.YtophbefmlfieeaaTxDel
import Derived.Laws.StructEq
namespace Go.Proofs.Ytophbefmlfieeaa
open Go.RowKit
def Rc.eqB (a b : Rc) : Bool := a.k == b.k && a.g == b.g && a.t == b.t && a.p == b.p && a.pg == b.pg && (a.key.toList == b.key.toList) && (a.hb == b.hb) && (a.sb.toList == b.sb.toList) && (a.ha == b.ha) && (a.sa.toList == b.sa.toList) && a.u == b.u
theorem bytes_eq {a b : ByteArray} (h : a.toList = b.toList) : a = b := by
  rw [ByteArray.toList_eq, ByteArray.toList_eq] at h
  obtain ⟨⟨x⟩⟩ := a
  obtain ⟨⟨y⟩⟩ := b
  have h : x = y := h
  rw [h]
theorem eqB_iff (a b : Rc) : Rc.eqB a b = true ↔ a = b := by
  constructor
  · intro h
    obtain ⟨k, g, t, p, pg, key, hb, sb, ha, sa, u⟩ := a
    obtain ⟨k', g', t', p', pg', key', hb', sb', ha', sa', u'⟩ := b
    simp only [Rc.eqB, Bool.and_eq_true, beq_iff_eq] at h
    obtain ⟨⟨⟨⟨⟨⟨⟨⟨⟨⟨h0, h1⟩, h2⟩, h3⟩, h4⟩, h5⟩, h6⟩, h7⟩, h8⟩, h9⟩, h10⟩ := h
    rw [h0, h1, h2, h3, h4, bytes_eq h5, h6, bytes_eq h7, h8, bytes_eq h9, h10]
  · rintro rfl
    simp [Rc.eqB]
set_option maxRecDepth 100000 in
set_option maxHeartbeats 4000000 in
theorem eq_rc (k g t p pg u k' g' t' p' pg' u' : Int) (key sb sa key' sb' sa' : ByteArray) (hb ha hb' ha' : Bool) (W : World) :
    (binOp .eql 38 (.agg #[.int .i64 k, .int .i64 g, .int .i64 t, .int .i64 p, .int .i64 pg, .string key, .bool hb, .string sb, .bool ha, .string sa, .int .i64 u]) (.agg #[.int .i64 k', .int .i64 g', .int .i64 t', .int .i64 p', .int .i64 pg', .string key', .bool hb', .string sb', .bool ha', .string sa', .int .i64 u'])).run Try.prog W = .ok (.bool (Rc.eqB ⟨k, g, t, p, pg, key, hb, sb, ha, sa, u⟩ ⟨k', g', t', p', pg', key', hb', sb', ha', sa', u'⟩)) W := by
  go_simp
  (repeat' split) <;> simp_all [Rc.eqB]
/-- What takes a record back. -/
def backRc (c : Rc) (gsn prev : Int) : Rc :=
  if (c.k == 2) && rcOk c.k c.g c.t c.p c.pg c.key c.hb c.sb c.ha c.sa c.u && rcOk 3 gsn c.t prev c.pg c.key c.ha c.sa c.hb c.sb c.g then ⟨3, gsn, c.t, prev, c.pg, c.key, c.ha, c.sa, c.hb, c.sb, c.g⟩ else ⟨0, 0, 0, 0, 0, ⟨#[]⟩, false, ⟨#[]⟩, false, ⟨#[]⟩, 0⟩
theorem rcBack_v (c : Rc) (gsn prev : Int) : rcBack c.k c.g c.t c.p c.pg c.key c.hb c.sb c.ha c.sa c.u gsn prev = (backRc c gsn prev).v := by
  unfold rcBack backRc
  split <;> rfl
def tkb (l : List Rc) (r : Rc) : Bool := match l.getLast? with
  | none => false
  | some c => Rc.eqB (backRc c r.g r.p) r
section
variable {W : World} {B K : Nat} {d : KnD}
set_option maxRecDepth 100000 in
set_option maxHeartbeats 4000000 in
theorem tkb_no (h : KnIs W B K d) (k g t p pg u : Int) (key sb sa : ByteArray) (hb ha : Bool) (hz : d.cl = []) :
    Calls Try.prog 65 #[.pointer (some ⟨K, 0, none⟩), .agg #[.int .i64 k, .int .i64 g, .int .i64 t, .int .i64 p, .int .i64 pg, .string key, .bool hb, .string sb, .bool ha, .string sa, .int .i64 u]] W fun x w' => x = .returned (.bool false) ∧ Below W.heap.size W w' := by
  have hsl := h.cr.slice
  rw [hz] at hsl
  obtain ⟨ca, cc, hcv⟩ := hsl
  have hb0 := (Below.refl W.heap.size W).alloc (Nat.le_refl _) (.cells #[.int .i64 k, .int .i64 g, .int .i64 t, .int .i64 p, .int .i64 pg, .string key, .bool hb, .string sb, .bool ha, .string sa, .int .i64 u] 38)
  have k5 := (h.below hb0).c5
  rw [hcv] at k5
  have B0 := Lib.hid hb0
  clear hb0 h hcv hz
  go_enter Try.func65, Try.ntmps65
  go_upto_region 2 with fail
  go_quiet (fail)
  go_wp2
  go_ret
  exact ⟨rfl, below_drewN B0.out _⟩
set_option maxRecDepth 100000 in
set_option maxHeartbeats 4000000 in
theorem tkb_some (h : KnIs W B K d) (k g t p pg u : Int) (key sb sa : ByteArray) (hb ha : Bool) {l : List Rc} {c : Rc} (hz : d.cl = l ++ [c]) (hl : l.length ≤ 100000) :
    Calls Try.prog 65 #[.pointer (some ⟨K, 0, none⟩), .agg #[.int .i64 k, .int .i64 g, .int .i64 t, .int .i64 p, .int .i64 pg, .string key, .bool hb, .string sb, .bool ha, .string sa, .int .i64 u]] W fun x w' => x = .returned (.bool (Rc.eqB (backRc c g p) ⟨k, g, t, p, pg, key, hb, sb, ha, sa, u⟩)) ∧ Below W.heap.size W w' := by
  obtain ⟨ck, cg, ct, cp, cpg, ckey, chb, csb, cha, csa, cu⟩ := c
  obtain ⟨gg, nn, cc, hcv⟩ := h.cr.some (by rw [hz]; simp)
  have hcr := h.cr
  rw [hcv, hz] at hcr
  have hnn : nn = l.length + 1 := by
    rcases hcr.form with ⟨e, _⟩ | ⟨_, _, e, _⟩
    · cases e
    · injection e with _ e _; rw [e, List.length_append]; rfl
  subst hnn
  have rc : ∀ j u, (Rc.cells ⟨ck, cg, ct, cp, cpg, ckey, chb, csb, cha, csa, cu⟩)[j]? = some u → W.cell? ⟨gg, l.length * 11 + j, none⟩ = some u := fun j u hj => by
    have hj11 : j < 11 := (List.getElem?_eq_some_iff.1 hj).1
    have hlen : (l ++ [(⟨ck, cg, ct, cp, cpg, ckey, chb, csb, cha, csa, cu⟩ : Rc)]).length = l.length + 1 := by simp
    refine RecR.cell (cap := cc) (l := l ++ [⟨ck, cg, ct, cp, cpg, ckey, chb, csb, cha, csa, cu⟩]) (by rw [hlen]; exact hcr) l.length j (by rw [hlen]; omega) hj11 u ?_
    rw [List.getD_eq_getElem?_getD, List.getElem?_append_right (Nat.le_refl _)]
    simpa using hj
  have hb0 := (Below.refl W.heap.size W).alloc (Nat.le_refl _) (.cells #[.int .i64 k, .int .i64 g, .int .i64 t, .int .i64 p, .int .i64 pg, .string key, .bool hb, .string sb, .bool ha, .string sa, .int .i64 u] 38)
  have k5 := (h.below hb0).c5
  rw [hcv] at k5
  have e0 := keep_cell hb0 (rc 0 _ rfl)
  have e1 := keep_cell hb0 (rc 1 _ rfl)
  have e2 := keep_cell hb0 (rc 2 _ rfl)
  have e3 := keep_cell hb0 (rc 3 _ rfl)
  have e4 := keep_cell hb0 (rc 4 _ rfl)
  have e5 := keep_cell hb0 (rc 5 _ rfl)
  have e6 := keep_cell hb0 (rc 6 _ rfl)
  have e7 := keep_cell hb0 (rc 7 _ rfl)
  have e8 := keep_cell hb0 (rc 8 _ rfl)
  have e9 := keep_cell hb0 (rc 9 _ rfl)
  have e10 := keep_cell hb0 (rc 10 _ rfl)
  have Q0 : Hid (R11 (W.alloc (.cells #[.int .i64 k, .int .i64 g, .int .i64 t, .int .i64 p, .int .i64 pg, .string key, .bool hb, .string sb, .bool ha, .string sa, .int .i64 u] 38)) W.heap.size ⟨k, g, t, p, pg, key, hb, sb, ha, sa, u⟩) := R11.new W ⟨k, g, t, p, pg, key, hb, sb, ha, sa, u⟩ 38
  obtain ⟨c0, c1, c2, c3, c4, c5, c6, c7, c8, c9, c10⟩ := Q0.out.all
  have B0 := Lib.hid hb0
  have KB := Lib.hid (fun X => back_any ck cg ct cp cpg cu g p ckey csb csa chb cha X)
  have hV := rcBack_v ⟨ck, cg, ct, cp, cpg, ckey, chb, csb, cha, csa, cu⟩ g p
  simp only at hV
  rw [hV] at KB
  generalize backRc ⟨ck, cg, ct, cp, cpg, ckey, chb, csb, cha, csa, cu⟩ g p = y at *
  obtain ⟨yk, yg, yt, yp, ypg, ykey, yhb, ysb, yha, ysa, yu⟩ := y
  simp only [Rc.v] at KB
  have HQ := Lib.hid (fun X => eq_rc yk yg yt yp ypg yu k g t p pg u ykey ysb ysa key sb sa yhb yha hb ha X)
  clear hb0 h hcv hz hcr rc hV
  have hi : IntKind.i64.wrap (l.length : Int) = (l.length : Int) := by
    rw [IntKind.wrap_i64]; omega
  have hi2 : IntKind.i64.wrap ((l.length : Int) + 1 - 1) = (l.length : Int) := by rw [IntKind.wrap_i64]; omega
  have hi3 : (0 : Int) ≤ (l.length : Int) := by omega
  have hi4 : (l.length : Int) < (l.length : Int) + 1 := by omega
  clear hl
  generalize l.length = n at *
  go_enter Try.func65, Try.ntmps65
  go_upto_region 2 with fail
  generalize W.alloc (.cells #[.int .i64 k, .int .i64 g, .int .i64 t, .int .i64 p, .int .i64 pg, .string key, .bool hb, .string sb, .bool ha, .string sa, .int .i64 u] 38) = Y at *
  have hY := Lib.hid (Below.refl Y.heap.size Y).drew
  have hq := HQ.out
  have hqY := Lib.hid B0.out.size
  have B1 := Lib.hid (B0.out.trans (hY.out.mono B0.out.size))
  generalize hQ : W.heap.size = q at *
  simp only [Nat.add_zero] at e0
  go_region_held3 (fun w' => w'.cell? ⟨q, 0, none⟩ = some (.int .i64 k) ∧ w'.cell? ⟨q, 1, none⟩ = some (.int .i64 g) ∧ w'.cell? ⟨q, 2, none⟩ = some (.int .i64 t) ∧ w'.cell? ⟨q, 3, none⟩ = some (.int .i64 p) ∧ w'.cell? ⟨q, 4, none⟩ = some (.int .i64 pg) ∧ w'.cell? ⟨q, 5, none⟩ = some (.string key) ∧ w'.cell? ⟨q, 6, none⟩ = some (.bool hb) ∧ w'.cell? ⟨q, 7, none⟩ = some (.string sb) ∧ w'.cell? ⟨q, 8, none⟩ = some (.bool ha) ∧ w'.cell? ⟨q, 9, none⟩ = some (.string sa) ∧ w'.cell? ⟨q, 10, none⟩ = some (.int .i64 u) ∧ w'.cell? ⟨gg, n * 11, none⟩ = some (.int .i64 ck) ∧ w'.cell? ⟨gg, n * 11 + 1, none⟩ = some (.int .i64 cg) ∧ w'.cell? ⟨gg, n * 11 + 2, none⟩ = some (.int .i64 ct) ∧ w'.cell? ⟨gg, n * 11 + 3, none⟩ = some (.int .i64 cp) ∧ w'.cell? ⟨gg, n * 11 + 4, none⟩ = some (.int .i64 cpg) ∧ w'.cell? ⟨gg, n * 11 + 5, none⟩ = some (.string ckey) ∧ w'.cell? ⟨gg, n * 11 + 6, none⟩ = some (.bool chb) ∧ w'.cell? ⟨gg, n * 11 + 7, none⟩ = some (.string csb) ∧ w'.cell? ⟨gg, n * 11 + 8, none⟩ = some (.bool cha) ∧ w'.cell? ⟨gg, n * 11 + 9, none⟩ = some (.string csa) ∧ w'.cell? ⟨gg, n * 11 + 10, none⟩ = some (.int .i64 cu) ∧ w'.cell? ⟨K, 5, none⟩ = some (.slice (some ⟨gg, 0, none⟩) (n + 1) cc))
    ((refine ⟨?_, ?_, ?_, ?_, ?_, ?_, ?_, ?_, ?_, ?_, ?_, ?_, ?_, ?_, ?_, ?_, ?_, ?_, ?_, ?_, ?_, ?_, ?_⟩ <;> (repeat (first | with_reducible assumption | with_reducible refine keep_alloc ?_ | with_reducible refine keep_drew ?_ | with_reducible refine keep_cell (by assumption) ?_))))
    (first
      | (go_at_call 76; refine (KB.out _).mono ?_; rintro x w98 ⟨rfl, hb98⟩))
  all_goals
    have B9 := Lib.hid (B1.out.trans (hb98.mono hqY.out))
    go_wp2
    go_ret
    exact ⟨rfl, by rw [hQ]; exact B9.out⟩
theorem tkb_any (h : KnIs W B K d) (k g t p pg u : Int) (key sb sa : ByteArray) (hb ha : Bool) (hl : d.cl.length ≤ 100000) :
    Calls Try.prog 65 #[.pointer (some ⟨K, 0, none⟩), .agg #[.int .i64 k, .int .i64 g, .int .i64 t, .int .i64 p, .int .i64 pg, .string key, .bool hb, .string sb, .bool ha, .string sa, .int .i64 u]] W fun x w' => x = .returned (.bool (tkb d.cl ⟨k, g, t, p, pg, key, hb, sb, ha, sa, u⟩)) ∧ Below W.heap.size W w' := by
  rcases List.eq_nil_or_concat d.cl with e | ⟨l, c, e⟩
  · refine (tkb_no h k g t p pg u key sb sa hb ha e).mono ?_
    rintro x w' ⟨rfl, hbw⟩
    rw [e]
    exact ⟨rfl, hbw⟩
  · rw [List.concat_eq_append] at e
    refine (tkb_some h k g t p pg u key sb sa hb ha e (by rw [e, List.length_append] at hl; omega)).mono ?_
    rintro x w' ⟨rfl, hbw⟩
    rw [e]
    refine ⟨?_, hbw⟩
    simp [tkb]
end
end Go.Proofs.Ytophbefmlfieeaa
