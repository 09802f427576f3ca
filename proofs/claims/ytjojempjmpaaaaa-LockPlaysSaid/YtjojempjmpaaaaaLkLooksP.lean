/-
  WHAT IS TOLD OF A TABLE OF LOCKS IS WHAT THE TWO LISTS TELL.
-/
import Derived.Test.YtjojempjmpaaaaaLkRef15
import Derived.Test.YtjojempjmpaaaaaLkActs
namespace Go.Proofs.Ytjojempjmpaaaaa
open Go.RowKit
section
variable {s : Lk} {H L : List Wc} {o : Int} {k : ByteArray}
theorem flatMap_one {α β γ : Type} (f : α → List β) (h : β → γ) (p : α → Bool) (g : α → γ) (hf : ∀ x, (f x).map h = if p x = true then [g x] else []) : ∀ l : List α, (l.flatMap f).map h = (l.filter p).map g
  | [] => rfl
  | x :: t => by
    rw [List.flatMap_cons, List.map_append, hf x, flatMap_one f h p g hf t]
    by_cases e : p x = true
    · rw [if_pos e, List.filter_cons_of_pos e]; rfl
    · rw [if_neg e, List.filter_cons_of_neg e]; rfl
theorem Two.hold1 (t : Two s H L) (hc : LkC s) : (hold1 H o k).map (fun c => ((c.k, c.wr) : Cl)) = if (s.hd o k).isSome = true then [clm s o k] else [] := by
  unfold Go.Proofs.Ytjojempjmpaaaaa.hold1 clm
  cases e : s.hd o k with
  | none => rw [(t.f0 hc e).1]; rfl
  | some w =>
    obtain ⟨i, hi, e2, e3, e4⟩ := t.f1 hc e
    rw [e2, if_pos (Int.natCast_nonneg _), Int.toNat_natCast, getD_at hi, e3]
    simp only [Option.isSome_some, if_true, List.map_cons, List.map_nil]
    rw [(hitB_iff.1 e4).2]
theorem Two.holds (t : Two s H L) (hc : LkC s) {l : List Cl} {ks : List ByteArray} (hs : SortC l) (hp : l.Perm (ks.map (clm s o))) (hn : ks.Nodup) (hk : ∀ k, k ∈ ks ↔ s.hd o k ≠ none) : l = (holdsR H o).map fun c => ((c.k, c.wr) : Cl) := by
  unfold holdsR
  rw [flatMap_one (Go.Proofs.Ytjojempjmpaaaaa.hold1 H o) _ (fun k => (s.hd o k).isSome) (clm s o) (fun k => t.hold1 hc)]
  have hf : (l.map Prod.fst).Perm ks := by
    have h1 := hp.map Prod.fst
    rw [List.map_map, show (Prod.fst ∘ clm s o) = id from funext (fun k => clm_k s o k), List.map_id] at h1
    exact h1
  have hx : ∀ x, x ∈ l → x = clm s o x.1 := fun x hx => by
    obtain ⟨k, _, rfl⟩ := List.mem_map.1 (hp.mem_iff.1 hx)
    rw [clm_k]
  have e : l.map Prod.fst = (keysL (H.map (·.k))).filter fun k => (s.hd o k).isSome := by
    refine upB_same ?_ ((keysL_up _).sublist (List.filter_sublist.map _)) (fun k => ?_)
    · have hnd : (l.map Prod.fst).Nodup := hf.nodup_iff.2 hn
      unfold UpK
      rw [List.map_map]
      unfold SortC at hs
      unfold List.Nodup at hnd
      rw [List.pairwise_map] at hnd ⊢
      refine (hs.and hnd).imp (fun {x y} h => ?_)
      rcases List.le_total x.1.data.toList y.1.data.toList with q | q
      · refine List.not_le.1 (fun q2 => h.2 (data_inj (List.le_antisymm q q2)))
      · exact absurd (List.not_le.1 (fun q2 => h.2 (data_inj (List.le_antisymm q2 q)))) h.1
    · rw [hf.mem_iff, hk, List.mem_filter, keysL_mem]
      constructor
      · intro h
        obtain ⟨w, e⟩ := Option.ne_none_iff_exists'.1 h
        obtain ⟨m, _⟩ := hc.ok.h1 o k w e
        exact ⟨List.mem_map.2 ⟨_, t.mh m, (hc.ok.ck 0 k w (by decide) m).1⟩, by rw [e]; rfl⟩
      · rintro ⟨_, h⟩ e
        rw [e] at h; cases h
  rw [← e, List.map_map]
  conv => lhs; rw [← List.map_id l]
  exact List.map_congr_left fun x h => hx x h
theorem brE_k (c : Wc) (h : List Wc) : brE c (h.filter (isK c.k)) = brE c h := by
  unfold brE
  rw [List.filter_filter]
  congr 1
  refine List.filter_congr fun x _ => ?_
  unfold barB isK
  cases decide (x.k = c.k) <;> simp
def edM (h : List Wc) : List Wc → List Wc → List (Int × Int)
  | _, [] => []
  | d, c :: t => brE c h ++ brE c d ++ edM h (d ++ [c]) t
theorem edL_k (h : List Wc) (kk : ByteArray) : ∀ l d : List Wc, edL h kk d l = edM (h.filter (isK kk)) (d.filter (isK kk)) (l.filter (isK kk))
  | [], _ => rfl
  | c :: t, d => by
    rw [edL, edL_k h kk t (d ++ [c])]
    by_cases e : c.k = kk
    · subst e
      rw [if_pos rfl, List.filter_cons_of_pos (isK_iff.2 rfl), edM, brE_k, brE_k, List.filter_append, List.filter_cons_of_pos (isK_iff.2 rfl)]
      rfl
    · have hn : ¬ isK kk c = true := fun q => e (isK_iff.1 q)
      rw [if_neg e, List.filter_cons_of_neg hn, List.filter_append, List.filter_cons_of_neg hn]
      simp
theorem brE_map {con : Nat → Wc} {w : Nat} {q : List Nat} (h : ∀ y, y ∈ q → (con y).k = (con w).k) : brE (con w) (q.map con) = rowEd con w q := by
  unfold brE rowEd
  rw [List.filter_map, List.map_map]
  congr 1
  refine List.filter_congr fun y hy => ?_
  show barB (con w) (con y) = _
  unfold barB
  rw [h y hy]
  simp
theorem rowEd_append (con : Nat → Wc) (w : Nat) (a b : List Nat) : rowEd con w (a ++ b) = rowEd con w a ++ rowEd con w b := by
  unfold rowEd
  rw [List.filter_append, List.map_append]
theorem edM_map {con : Nat → Wc} {q0 : List Nat} : ∀ (q d : List Nat), (∀ y, y ∈ q0 ++ d ++ q → (con y).k = k) → edM (q0.map con) (d.map con) (q.map con) = edK con (q0 ++ d) q
  | [], _, _ => rfl
  | w :: t, d, h => by
    have hw := h w (by simp)
    rw [List.map_cons, edM, edK, brE_map (fun y hy => (h y (by simp [hy])).trans hw.symm), brE_map (fun y hy => (h y (by simp [hy])).trans hw.symm), rowEd_append]
    have ih := edM_map (con := con) (q0 := q0) t (d ++ [w]) (fun y hy => h y (by
      simp only [List.mem_append, List.mem_cons, List.not_mem_nil, or_false] at hy ⊢
      rcases hy with (hy | hy | hy) | hy
      · exact .inl (.inl hy)
      · exact .inl (.inr hy)
      · exact .inr (.inl hy)
      · exact .inr (.inr hy)))
    rw [List.map_append, List.map_cons, List.map_nil] at ih
    rw [ih, ← List.append_assoc]
theorem Two.edges (t : Two s H L) (hc : LkC s) {kl : List ByteArray} (hk : ∀ k, k ∈ kl ↔ waited s k) : (keysL kl).flatMap (edOf s) = edgesR H L := by
  unfold edgesR
  have e1 : edOf s = fun kk => edL H kk [] L := by
    funext kk
    rw [edL_k, t.h, t.l]
    unfold edOf
    have := edM_map (con := s.con) (q0 := s.q 0 kk) (k := kk) (s.q 1 kk ++ s.q 2 kk) [] (fun y hy => by
      rw [List.append_nil] at hy
      rcases List.mem_append.1 hy with c | c
      · exact (hc.ok.ck 0 kk y (by decide) c).1
      · rcases List.mem_append.1 c with c | c
        · exact (hc.ok.ck 1 kk y (by decide) c).1
        · exact (hc.ok.ck 2 kk y (by decide) c).1)
    rw [List.append_nil] at this
    exact this.symm
  rw [e1, keysL_congr (a := kl) (b := L.map (·.k)) (fun k => ?_)]
  rw [hk, List.mem_map]
  constructor
  · rintro ⟨o, w, hw, rfl⟩
    obtain ⟨_, i, hi, hq⟩ := hc.ok.w1 o w hw
    exact ⟨_, t.ml hi hq, rfl⟩
  · rintro ⟨x, hx, rfl⟩
    obtain ⟨y, i, hi, hy, rfl⟩ := t.lm hx
    exact ⟨_, y, hc.ok.w2 i _ y hi hy, rfl⟩
theorem Two.line (t : Two s H L) : (L.filter (isK k)).map (·.ow) = lineO s k := by
  rw [t.l, List.map_map]
  rfl
end
end Go.Proofs.Ytjojempjmpaaaaa
