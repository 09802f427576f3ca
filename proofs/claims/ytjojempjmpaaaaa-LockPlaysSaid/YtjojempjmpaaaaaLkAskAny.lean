/-
  A TABLE OF LOCKS: Ask of anybody.
-/
import Derived.Test.YtjojempjmpaaaaaLkAskU
import Derived.Test.YtjojempjmpaaaaaLkAskE
namespace Go.Proofs.Ytjojempjmpaaaaa
open Go.RowKit
section
variable {B : Nat} {W X : World} {T ml mh mw n : Nat} {s : Lk} {k : ByteArray} {b : Bool} {o : Int}
/-- What Ask answers and leaves. -/
def AkP (B : Nat) (T ml mh mw n : Nat) (s : Lk) (o : Int) (k : ByteArray) (b : Bool) (W : World) (e : Ending) (W' : World) : Prop :=
  ∃ c s', e = .returned (.int .i64 c) ∧ AskR s o k b c s' ∧ LkAt B W' T ml mh mw (n + 3) s' ∧ Below B W W'
theorem ask_any (h : LkAt B W T ml mh mw n s) (hc : LkC s) (hwf : (Lit.int .i64 o).wf = true) (hs : k.size ≤ 1000) (hn : n ≤ 100000) :
    Calls Try.prog 12 #[.pointer (some ⟨T, 0, none⟩), .int .i64 o, .agg #[.string k, .bool b]] W (AkP B T ml mh mw n s o k b W) := by
  have same : ∀ {c : Int} {e : Ending} {W' : World}, AskR s o k b c s → e = .returned (.int .i64 c) ∧ Below W.heap.size W W' → AkP B T ml mh mw n s o k b W e W' := fun {c e W'} hr q => ⟨c, s, q.1, hr, (h.below q.2).mono (by omega), q.2.mono h.lts⟩
  by_cases ho : o < 0
  · exact (ask_neg h ho).mono fun e W' q => same (.neg ho) q
  have ho : 0 ≤ o := by omega
  cases hw : s.wt o with
  | some w => exact (ask_state h ho hwf hw).mono fun e W' q => same (.state w ho hw) q
  | none =>
    cases hh : s.hd o k with
    | some h0 =>
      cases hwr : (s.con h0).wr with
      | true => exact (ask_has_w h hc ho hwf hs hw hh hn hwr).mono fun e W' q => same (.has h0 ho hw hh (.inl hwr)) q
      | false =>
        cases b with
        | false => exact (ask_has_r h hc ho hwf hs hw hh hn hwr rfl).mono fun e W' q => same (.has h0 ho hw hh (.inr rfl)) q
        | true =>
          cases hf : freeB s.con ⟨k, true, o⟩ (s.q 0 k) with
          | true => exact (ask_up h hc ho hwf hs hw hh hn hwr rfl hf).mono fun e W' q => (let ⟨q1, K, q2, q3⟩ := q; ⟨0, _, q1, .up K h0 ho hw hh hwr rfl hf, q2, q3⟩)
          | false => exact (ask_upw h hc ho hwf hs hw hh hn hwr rfl hf).mono fun e W' q => (let ⟨q1, K, w, q2, q3, q4⟩ := q; ⟨10, _, q1, .upw K h0 w ho hw hh hwr rfl hf q3, q2, q4⟩)
    | none =>
      by_cases hq : s.q 1 k ++ s.q 2 k = []
      · cases hf : freeB s.con ⟨k, b, o⟩ (s.q 0 k) with
        | true => exact (ask_hold h ho hwf hs hw hh hn hq hf).mono fun e W' q => (let ⟨q1, K, m, w, q2, q3, q4⟩ := q; ⟨0, _, q1, .hold K m w ho hw hh hq hf q3, q2, q4⟩)
        | false => exact (ask_busy h ho hwf hs hw hh hn hq hf).mono fun e W' q => (let ⟨q1, K, w, q2, q3, q4⟩ := q; ⟨10, _, q1, .wait K w ho hw hh (.inr hf) q3, q2, q4⟩)
      · exact (ask_wait h ho hwf hs hw hh hn hq).mono fun e W' q => (let ⟨q1, K, w, q2, q3, q4⟩ := q; ⟨10, _, q1, .wait K w ho hw hh (.inl hq) q3, q2, q4⟩)
end
end Go.Proofs.Ytjojempjmpaaaaa
