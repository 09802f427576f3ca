/-
  A QUEUE OF WAITERS AS A ROW: all; what an owner waits for.
-/
import Derived.Test.YtjojempjmpaaaaaLkm4
import Derived.Test.YtjojempjmpaaaaaLkSame
namespace Go.Proofs.Ytjojempjmpaaaaa
open Go.RowKit
def ptrs (l : List Nat) : List Value := l.map fun x => .pointer (some ⟨x, 0, none⟩)
def RowP (W : World) (B : Nat) (v : Value) (l : List Nat) : Prop := W.ownsRow B 72 1 v l.length (ptrs l)
theorem infoP : (Try.prog.info? 72).map (fun i => (i.zero, i.size, i.bytes)) = some (some (.pointer none), 1, 8) := by kernel_rfl
theorem append_p {w : World} {ops : Array Oper} {rest : List Oper} {o : Oper} {a : Act} {Q : Exit → Act → World → Prop} (hgd : o.guard = none) (s x : Operand)
    (ho : o.op = .call { callee := .builtin .append, args := #[s, x], argTypes := #[92, 92] })
    (B : Nat) (v : Value) (l : List Nat) (ad : Addr) (t : Nat) (c : Nat) (hs : a.eval s = v) (hown : RowP w B v l) (hx : a.eval x = .slice (some ad) 1 c) (hc : w.cell? (ad.add 0) = some (.pointer (some ⟨t, 0, none⟩))) (h10 : l.length ≤ 1000000) (hB : B ≤ w.heap.size)
    (h : ∀ v' w', RowP w' B v' (l ++ [t]) → w.grownBy w' v.ownBlock → wpList Try.prog ops Q rest (a.put o.dst v') w') :
    wpList Try.prog ops Q (o :: rest) a w := by
  obtain ⟨i0, hi, hzz⟩ := Option.map_eq_some_iff.1 infoP
  simp only [Prod.mk.injEq] at hzz
  obtain ⟨hz0, hz1, hz2⟩ := hzz
  refine wpList_append_own_at _ hgd s x 92 ho B 72 i0 (.pointer none) 1 8 Try.underlying92 hi hz0 hz1 hz2 rfl (by decide) v l.length (ptrs l) hs hown ad 1 c [.pointer (some ⟨t, 0, none⟩)] hx rfl ?_ ?_ (by unfold maxLen; omega) (by omega) hB (fun v' w' h1 h2 _ _ => h v' w' ?_ h2)
  · intro j u' hj
    match j, hj with
    | 0, hj => simp at hj; subst hj; exact hc
  · intro u' hu; simp at hu; subst hu; rfl
  · unfold RowP ptrs
    rw [List.length_append, List.map_append]; exact h1
theorem RowP.below {W W' : World} {B : Nat} {v : Value} {l : List Nat} (h : RowP W B v l) (hb : Below W.heap.size W W') : RowP W' B v l :=
  World.ownsRow.kept h (row := none) ⟨hb.os, hb.tape, hb.output, hb.size, fun k hk _ => hb.block k hk⟩ (by cases v.ownBlock with
    | none => exact .inl rfl
    | some k => exact .inr (fun e => by cases e))
theorem RowP.form {W : World} {B : Nat} {v : Value} {l : List Nat} (h : RowP W B v l) : ∃ a c, v = .slice a l.length c ∧ PRow W a l := by
  rcases h.2 with ⟨e, hz⟩ | ⟨g, cap, cur, e, hb, hg, _⟩
  · subst e
    rw [List.length_eq_zero_iff.1 hz]
    exact ⟨none, 0, rfl, .inl rfl⟩
  · subst e
    refine ⟨_, cap, rfl, .inr ⟨g, 0, rfl, fun i hi => ?_⟩⟩
    rw [Nat.zero_add, World.ownsRow.cellAt h i (by omega)]
    unfold ptrs
    rw [List.getElem?_map, List.getElem?_eq_getElem hi, List.getD_eq_getElem?_getD, List.getElem?_eq_getElem hi]
    rfl
def slen : Value → Nat
  | .slice _ n _ => n
  | _ => 0
theorem grown_cell5 {w w' : World} {k : Option Nat} {p : Addr} {u : Value} (hg : w.grownBy w' k) (hk : k ≠ some p.block) (hc : w.cell? p = some u) : w'.cell? p = some u :=
  (World.cell?_of_block (hg.block p.block (block_lt hc) (fun e => hk e.symm))).trans hc
section
variable {W : World} {K off : Nat} {q : List Nat}
set_option maxRecDepth 100000 in
set_option maxHeartbeats 1000000 in
theorem all_any (h : QAt W K off q) (hl : q.length ≤ 100000) : Calls Try.prog 62 #[.pointer (some ⟨K, off, none⟩)] W fun e W' => ∃ v, e = .returned v ∧ RowP W' W.heap.size v q ∧ Below W.heap.size W W' := by
  have hf := h.f
  rw [show q.head? = q[0]? from List.head?_eq_getElem?] at hf
  have HQ := Lib.hid h
  clear h
  go_enter Try.func62, Try.ntmps62
  go_wp2
  go_loopw [3, 4] (fun v u wr => ∃ (j : Nat) (a : Option Addr) (c : Nat), j ≤ q.length ∧ v = .slice a j c ∧ u = pV q[j]? ∧ Hid (RowP wr W.heap.size v (q.take j)) ∧ Hid (Below W.heap.size W wr)) (fun v _ _ => q.length - slen v)
  case atStart => exact ⟨0, none, 0, Nat.zero_le _, rfl, rfl, World.ownsRow_nil _ _ _ _, Below.refl _ _⟩
  case round =>
    obtain ⟨j, a, c, hj, rfl, rfl, hr, hb⟩ := hrel
    rename World => wr
    clear hf
    by_cases hlt : j < q.length
    · have hx : q[j]? = some q[j] := List.getElem?_eq_getElem hlt
      have b4 := ((HQ.out.below hb.out).b j q[j] hx)
      have htk : q.take (j + 1) = q.take j ++ [q[j]] := List.take_succ_eq_append_getElem hlt
      have HT := Lib.hid htk
      have hmem : q[j] ∈ q := List.getElem_mem hlt
      have hql := HQ.out.ltq hmem
      rw [hx]
      generalize q[j] = x at *
      rw [show pV (some x) = .pointer (some ⟨x, 0, none⟩) from rfl]
      have hba : Below wr.heap.size wr (wr.alloc (.cells #[.pointer (some ⟨x, 0, none⟩)] 72)) := (Below.refl _ _).alloc (Nat.le_refl _) _
      have HR := Lib.hid (hr.out.below hba)
      have HB := Lib.hid (hb.out.trans (hba.mono hb.out.size))
      have hcl : (wr.alloc (.cells #[.pointer (some ⟨x, 0, none⟩)] 72)).cell? ((⟨wr.heap.size, 0, none⟩ : Addr).add 0) = some (.pointer (some ⟨x, 0, none⟩)) := new_cell rfl rfl
      have hbs := HB.out.size
      have HB4 := Lib.hid (keep_cell hba b4)
      have hlen : (q.take j).length = j := by rw [List.length_take]; omega
      have hown : RowP (wr.alloc (.cells #[.pointer (some ⟨x, 0, none⟩)] 72)) W.heap.size (.slice a j c) (q.take j) := HR.out
      have HXW := Lib.hid hql
      have HLT := Lib.hid hlt
      clear hr hb hba htk hx b4 hmem hql HR
      go_wp2_with (at_builtin; refine append_p rfl _ _ rfl W.heap.size (.slice a j c) (q.take j) ⟨wr.heap.size, 0, none⟩ x 1 rfl hown rfl hcl (by omega) hbs ?_)
      intro v5 w5 hr5 hg5
      rw [← HT.out] at hr5
      obtain ⟨a5, c5, rfl, _⟩ := hr5.form
      have hl5 : (q.take (j + 1)).length = j + 1 := by rw [List.length_take]; have := HLT.out; omega
      have hb5 : Below W.heap.size W w5 := HB.out.grown hg5 hbs (fun g hg => (World.ownsRow.lt hown g hg).1)
      have c4 : w5.cell? ⟨x, 4, none⟩ = some (pV q[j + 1]?) := by
        refine grown_cell5 hg5 (fun e => ?_) HB4.out
        have h1 := (World.ownsRow.lt hown x e).1
        have h2 := HXW.out
        omega
      rw [hl5] at hr5 ⊢
      have HR5 := Lib.hid hr5
      have HB5 := Lib.hid hb5
      clear hr5 hg5 hb5 hown hcl hbs HB HB4 HT
      go_wp2
      go_roundw
      case rel => exact ⟨j + 1, a5, c5, HLT.out, rfl, rfl, HR5, HB5⟩
      case measure => simp [slen]; have := HLT.out; omega
    · obtain rfl : j = q.length := by omega
      have e0 : q[q.length]? = none := List.getElem?_eq_none (Nat.le_refl _)
      rw [e0]
      have hr2 := hr.out
      rw [List.take_length] at hr2
      have HR := Lib.hid hr2
      rw [show pV none = .pointer none from rfl]
      clear hr hr2 e0
      go_wp2
      go_ret
      exact ⟨_, rfl, HR.out, hb.out⟩
end
end Go.Proofs.Ytjojempjmpaaaaa
