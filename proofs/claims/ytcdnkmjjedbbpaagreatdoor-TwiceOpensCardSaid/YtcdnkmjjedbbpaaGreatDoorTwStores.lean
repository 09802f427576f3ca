/-
  TwiceStores: what stores come to, the law's row of pages, the contracts that its walk meets.
-/
import Derived.Test.YtcdnkmjjedbbpaaGreatDoorTwr
namespace Go.Proofs.YtcdnkmjjedbbpaaGreatDoor
open Go.RowKit
/-- What a Store of pages comes to, as the document has it: the error's number, and all pages behind it. -/
def mdL (np : Nat) : (Nat → Pg) → List PgV → Int × (Nat → Pg)
  | now, [] => (0, now)
  | now, q :: r => if pgOk q.no q.g q.l = true ∧ q.no < (np : Int) then mdL np (setPg now q.no.toNat (q.g, q.l)) r else (1, now)
theorem stL_on {np : Nat} : ∀ (ps : List PgV) (s : Ds) (now : Nat → Pg), Still np now s → s.pm = .on → (stL np ps s).1 = (mdL np now ps).1 ∧ Still np (mdL np now ps).2 (stL np ps s).2 ∧ (stL np ps s).2.pm = .on
  | [], s, now, h, hp => ⟨rfl, h, hp⟩
  | q :: r, s, now, h, hp => by
    unfold stL mdL
    by_cases hc : pgOk q.no q.g q.l = true ∧ q.no < (np : Int)
    · obtain ⟨k, hk⟩ : ∃ k : Nat, q.no = (k : Int) := ⟨q.no.toNat, by have := (pgOk_parts hc.1).1; omega⟩
      have hkn : k < np := by have := hc.2; omega
      have hok : pgOk (k : Int) q.g q.l = true := by rw [← hk]; exact hc.1
      have e3 : st1 np q s = (er (storeM k (pgBytes k q.g q.l) s).1, (storeM k (pgBytes k q.g q.l) s).2) := by unfold st1; rw [if_pos hc, hk, Int.toNat_natCast]
      obtain ⟨o1, o2⟩ := OnOk.store k (pgBytes k q.g q.l) s hp
      have ht := (storeM_ht (n := np) (now := now) (no := k) (p := (q.g, q.l)) hkn hok s h).1 o1
      have e5 : (st1 np q s).1 = 0 := by rw [e3]; exact er_t o1
      rw [if_pos e5, if_pos hc, e3, hk, Int.toNat_natCast]
      exact stL_on r _ _ ht o2
    · have e3 : st1 np q s = (1, s) := by unfold st1; rw [if_neg hc]
      rw [if_neg (by rw [e3]; exact (by decide : ¬ (1 : Int) = 0)), if_neg hc, e3]
      exact ⟨rfl, h, hp⟩
section
variable {w W : World} {D P L M n B T np R : Nat} {now : Nat → Pg} {pm : Pm}
theorem c_storeL (h : Tk w W D P L M n B T np now .on) (hn : n ≤ 4096) (h3 : 5 + 4 * np ≤ n) (a : Option Addr) (ps : List PgV) (c : Nat) (hB : B + 14 * ps.length ≤ 900000) (hps : PgsAt w a ps) (hl : ∀ i, (ps.getD i noPg).l.length ≤ maxLen) :
    Calls Tryz.prog 12 #[.pointer (some ⟨T, 0, none⟩), .slice a ps.length c] W fun x w' => x = .returned (.int .i64 (mdL np now ps).1) ∧ Tk w w' D P L M n (B + 14 * ps.length) T np (mdL np now ps).2 .on ∧ Dv.Fr3 P L M W w' := by
  obtain ⟨s, q1, q2, q3⟩ := h
  obtain ⟨e1, e2, e3⟩ := stL_on ps s now q2 q3
  refine (store_l q1 hn h3 a ps c hB (fun W1 hf => hps.below (q1.bw.trans (hf.below q1.bw.size q1.lo.1 q1.lo.2.1 q1.lo.2.2))) hl).mono ?_
  rintro x w' ⟨rfl, hs, hf⟩
  rw [e1]
  exact ⟨rfl, ⟨_, hs, e2, e3⟩, hf⟩
/-- The law's row of pages. -/
structure LpN (w W : World) (R cap np : Nat) (ps : List PgV) (now : Nat → Pg) : Prop where
  row : RowP W w.heap.size (.slice (some ⟨R, 0, none⟩) ps.length cap) ps
  is : NowIs np ps now
  cl : ∀ i, i < np → ClsAt w (ps.getD i noPg).a (ps.getD i noPg).l
  sm : ∀ i, i < np → (now i).2.length ≤ 1000
theorem LpN.below {X : World} {cap : Nat} {ps : List PgV} (h : LpN w W R cap np ps now) (hb : Below W.heap.size W X) : LpN w X R cap np ps now := ⟨h.row.below hb, h.is, h.cl, h.sm⟩
theorem LpN.fr3 {X : World} {cap : Nat} {ps : List PgV} (h : LpN w W R cap np ps now) (hf : Dv.Fr3 P L M W X) (h2 : P ≠ R) (h3 : L ≠ R) (h4 : M ≠ R) : LpN w X R cap np ps now := ⟨h.row.fr3 hf h2.symm h3.symm h4.symm, h.is, h.cl, h.sm⟩
theorem LpN.len {cap : Nat} {ps : List PgV} (h : LpN w W R cap np ps now) : ps.length = np := h.is.1
theorem LpN.pgs {cap : Nat} {ps : List PgV} (h : LpN w W R cap np ps now) (hb : Below w.heap.size w W) : PgsAt W (some ⟨R, 0, none⟩) ps := h.row.pgs fun i hi => (h.cl i (by have := h.len; omega)).below hb
theorem LpN.spot {cap : Nat} {ps : List PgV} (h : LpN w W R cap np ps now) (k : Nat) (hk : k < np) : (∃ v, W.cell? ⟨R, k * 3, none⟩ = some (.int .i64 v)) ∧ (∃ v, W.cell? ⟨R, k * 3 + 1, none⟩ = some (.int .i64 v)) ∧ (∃ a m c, W.cell? ⟨R, k * 3 + 2, none⟩ = some (.slice a m c)) ∧ ∀ j, W.frozen? ⟨R, j, none⟩ = false := by
  obtain ⟨h1, h2, h3⟩ := h.row.cells k (by have := h.len; omega)
  exact ⟨⟨_, h1⟩, ⟨_, h2⟩, ⟨_, _, _, h3⟩, fun j => World.ownsRow.frozenAt h.row j⟩
theorem NowIs.setn {ps : List PgV} (h : NowIs np ps now) (q : PgV) {k : Nat} (hk : k < np) (hq : q.no = (k : Int)) : NowIs np (ps.set k q) (setPg now k (q.g, q.l)) := by
  obtain ⟨h1, h2⟩ := h
  refine ⟨by rw [List.length_set]; exact h1, fun j hj => ?_⟩
  rw [List.getD_eq_getElem?_getD, List.getElem?_set]
  by_cases e : k = j
  · subst e
    rw [if_pos rfl, if_pos (by omega)]
    refine ⟨hq, ?_⟩
    unfold setPg; rw [if_pos rfl]; rfl
  · rw [if_neg e]
    have := h2 j hj
    rw [List.getD_eq_getElem?_getD] at this
    unfold setPg
    rw [if_neg (fun x => e x.symm)]
    exact this
theorem LpN.set {cap : Nat} {ps : List PgV} (h : LpN w W R cap np ps now) (k : Nat) (hk : k < np) (q : PgV) (hq : q.no = (k : Int)) (hc : ClsAt w q.a q.l) (hs : q.l.length ≤ 1000) :
    LpN w (((W.setCell ⟨R, k * 3, none⟩ (.int .i64 q.no)).setCell ⟨R, k * 3 + 1, none⟩ (.int .i64 q.g)).setCell ⟨R, k * 3 + 2, none⟩ (.slice q.a q.l.length q.c)) R cap np (ps.set k q) (setPg now k (q.g, q.l)) where
  row := by
    have := h.row.set k (by have := h.len; omega) q
    rw [List.length_set]; exact this
  is := h.is.setn q hk hq
  cl := fun i hi => by
    rw [List.getD_eq_getElem?_getD, List.getElem?_set]
    by_cases e : k = i
    · rw [if_pos e, if_pos (by have := h.len; omega)]; exact hc
    · rw [if_neg e, ← List.getD_eq_getElem?_getD]; exact h.cl i hi
  sm := fun i hi => by
    unfold setPg
    split
    · exact hs
    · exact h.sm i hi
theorem nowN_em (np : Nat) : NowIs np (emP np) (fun _ => (0, [])) := ⟨emP_len np, fun k hk => by rw [emP_get np k hk]; exact ⟨rfl, rfl⟩⟩
theorem Tk.up (h : Tk w W D P L M n B T np now .on) : Tup w W D P L M n B (fun g => Inv np g now) := by
  obtain ⟨⟨pm, g, f⟩, h1, h2, h3⟩ := h
  have h3 : pm = .on := h3
  subst h3
  have hf : f = fun _ => none := by
    funext z
    cases hz : f z with
    | none => rfl
    | some l =>
      have := (h1.d.ok z l hz).1
      obtain ⟨k, rfl⟩ := Int.eq_ofNat_of_zero_le this
      have h4 : f (k : Int) = none := h2.loose k
      rw [h4] at hz; cases hz
  subst hf
  exact ⟨g, h1.b, .inl ⟨h2.note, h2.homes⟩⟩
end
end Go.Proofs.YtcdnkmjjedbbpaaGreatDoor
