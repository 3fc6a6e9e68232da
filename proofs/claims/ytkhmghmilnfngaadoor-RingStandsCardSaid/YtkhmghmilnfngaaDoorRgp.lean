/-
  A ring as plain mathematics: the order in which a key comes to replicas is that of their nearest points.
-/
import Derived.Test.YtkhmghmilnfngaaDoorRga
namespace Go.Proofs.YtkhmghmilnfngaaDoor
set_option maxRecDepth 100000
open Go.Sort
set_option linter.unusedVariables false
set_option linter.unusedSectionVars false
set_option linter.unusedSimpArgs false

/-- How far behind a key's place a place is. -/
def dst (pl p : Nat) : Nat := (p + 18446744073709551616 - pl) % 18446744073709551616
/-- How far behind a key a replica's first point is. -/
def nearR (plc : Nat → Nat → Nat) (pl r : Nat) : Nat → Nat
  | 0 => 18446744073709551615
  | k + 1 => min (nearR plc pl r k) (dst pl (plc r k))
theorem nearR_le (plc : Nat → Nat → Nat) (pl r : Nat) : ∀ k p, p < k → nearR plc pl r k ≤ dst pl (plc r p)
  | k + 1, p, h => by
    unfold nearR
    rcases Nat.lt_or_ge p k with h1 | h1
    · exact Nat.le_trans (Nat.min_le_left _ _) (nearR_le plc pl r k p h1)
    · obtain rfl : p = k := by omega
      exact Nat.min_le_right _ _
theorem dst_lt (pl p : Nat) : dst pl p < 18446744073709551616 := Nat.mod_lt _ (by omega)
theorem nearR_is (plc : Nat → Nat → Nat) (pl r : Nat) : ∀ k, 1 ≤ k → ∃ p, p < k ∧ nearR plc pl r k = dst pl (plc r p)
  | 1, _ => ⟨0, by omega, by
      have := dst_lt pl (plc r 0)
      unfold nearR nearR
      omega⟩
  | k + 2, _ => by
    obtain ⟨p, hp, e⟩ := nearR_is plc pl r (k + 1) (by omega)
    rcases Nat.le_total (nearR plc pl r (k + 1)) (dst pl (plc r (k + 1))) with h | h
    · exact ⟨p, by omega, by show min (nearR plc pl r (k + 1)) (dst pl (plc r (k + 1))) = _; rw [Nat.min_eq_left h, e]⟩
    · exact ⟨k + 1, by omega, Nat.min_eq_right h⟩
theorem nearR_lt (plc : Nat → Nat → Nat) (pl r : Nat) : ∀ k, nearR plc pl r k < 18446744073709551616
  | 0 => by unfold nearR; omega
  | k + 1 => Nat.lt_of_le_of_lt (Nat.min_le_left _ _) (nearR_lt plc pl r k)
/-- Ahead by d, and of one d by its number. -/
def LtW (d : Nat → Nat) (a b : Nat) : Prop := d a < d b ∨ (d a = d b ∧ a < b)
theorem LtW.irr (d : Nat → Nat) (a : Nat) : ¬ LtW d a a := by unfold LtW; omega
theorem LtW.asym {d : Nat → Nat} {a b : Nat} (h : LtW d a b) : ¬ LtW d b a := by unfold LtW at *; omega
theorem eq_of_strict {d : Nat → Nat} : ∀ {l l' : List Nat}, l.Pairwise (LtW d) → l'.Pairwise (LtW d) → (∀ x, x ∈ l ↔ x ∈ l') → l = l'
  | [], [], _, _, _ => rfl
  | [], b :: l', _, _, h => absurd ((h b).2 (by simp)) (by simp)
  | a :: l, [], _, _, h => absurd ((h a).1 (by simp)) (by simp)
  | a :: l, b :: l', h1, h2, h => by
    obtain ⟨p1, q1⟩ := List.pairwise_cons.1 h1
    obtain ⟨p2, q2⟩ := List.pairwise_cons.1 h2
    have e : a = b := by
      rcases List.mem_cons.1 ((h a).1 (by simp)) with e | e
      · exact e
      · rcases List.mem_cons.1 ((h b).2 (by simp)) with e' | e'
        · exact e'.symm
        · exact absurd (p1 b e') (LtW.asym (p2 a e))
    subst e
    congr 1
    refine eq_of_strict q1 q2 fun x => ?_
    constructor
    · intro hx
      rcases List.mem_cons.1 ((h x).1 (by simp [hx])) with e | e
      · subst e; exact absurd (p1 x hx) (LtW.irr d x)
      · exact e
    · intro hx
      rcases List.mem_cons.1 ((h x).2 (by simp [hx])) with e | e
      · subst e; exact absurd (p2 x hx) (LtW.irr d x)
      · exact e
/-- The document's order: each replica put in among those ahead of it by number. -/
def refW (d : Nat → Nat) : Nat → List Nat
  | 0 => []
  | n + 1 => (refW d n).filter (fun z => decide (d z ≤ d n)) ++ n :: (refW d n).filter (fun z => decide (d n < d z))
theorem mem_refW (d : Nat → Nat) : ∀ n z, z ∈ refW d n ↔ z < n
  | 0, z => by simp [refW]
  | n + 1, z => by
    have h := mem_refW d n z
    unfold refW
    simp only [List.mem_append, List.mem_cons, List.mem_filter, decide_eq_true_eq, h]
    omega
theorem refW_srt (d : Nat → Nat) : ∀ n, (refW d n).Pairwise (LtW d)
  | 0 => by simp [refW]
  | n + 1 => by
    have h := refW_srt d n
    unfold refW
    refine List.pairwise_append.2 ⟨h.sublist List.filter_sublist, List.pairwise_cons.2 ⟨fun b hb => ?_, h.sublist List.filter_sublist⟩, fun a ha b hb => ?_⟩
    · have := (List.mem_filter.1 hb).2
      simp at this
      exact .inl this
    · have h1 := List.mem_filter.1 ha
      have h2 := (mem_refW d n a).1 h1.1
      have h3 := h1.2
      simp at h3
      rcases List.mem_cons.1 hb with e | e
      · subst e
        unfold LtW
        omega
      · have h4 := (List.mem_filter.1 e).2
        simp at h4
        unfold LtW
        omega
theorem refW_len (d : Nat → Nat) : ∀ n, (refW d n).length = n
  | 0 => rfl
  | n + 1 => by
    have h := refW_len d n
    unfold refW
    rw [List.length_append, List.length_cons]
    have : ∀ l : List Nat, (l.filter (fun z => decide (d z ≤ d n))).length + (l.filter (fun z => decide (d n < d z))).length = l.length := fun l => by
      induction l with
      | nil => rfl
      | cons x l ih =>
        by_cases hx : d x ≤ d n
        · rw [List.filter_cons_of_pos (by simpa using hx), List.filter_cons_of_neg (by simp; omega)]
          simp only [List.length_cons]
          omega
        · rw [List.filter_cons_of_neg (by simpa using hx), List.filter_cons_of_pos (by simp; omega)]
          simp only [List.length_cons]
          omega
    have := this (refW d n)
    omega
theorem ptsL_srt (plc : Nat → Nat → Nat) (k : Nat) : ∀ n, (ptsL plc n k).Pairwise (fun x y => x.r ≤ y.r)
  | 0 => by simp [ptsL]
  | n + 1 => by
    rw [ptsL_succ]
    refine List.pairwise_append.2 ⟨ptsL_srt plc k n, ?_, fun a ha b hb => ?_⟩
    · unfold ptsR
      rw [List.pairwise_map]
      exact List.pairwise_iff_forall_sublist.2 fun _ => Nat.le_refl _
    · have h1 := (mem_ptsL ha).1
      unfold ptsR at hb
      obtain ⟨p, _, rfl⟩ := List.mem_map.1 hb
      show a.r ≤ n
      omega
theorem ring_lex (plc : Nat → Nat → Nat) (n k : Nat) : (ringL plc n k).Pairwise (fun x y => x.p < y.p ∨ (x.p = y.p ∧ x.r ≤ y.r)) := by
  refine List.pairwise_iff_forall_sublist.2 fun {x y} h => ?_
  have h1 : ltP y x = false := (List.pairwise_iff_forall_sublist.1 (ringL_srt plc n k)) h
  unfold ltP at h1
  simp at h1
  by_cases e : x.p = y.p
  · refine .inr ⟨e, ?_⟩
    have h2 := h.filter (fun z => decide (z.p = x.p))
    have e2 : [x, y].filter (fun z => decide (z.p = x.p)) = [x, y] := by simp [e]
    rw [e2] at h2
    unfold ringL at h2
    have h5 : Srt ltP ((ptsL plc n k).filter (fun z => decide (z.p = x.p))) := by
      refine List.pairwise_iff_forall_sublist.2 fun {a b} hab => ?_
      have ha := hab.subset (show a ∈ [a, b] by simp)
      have hb := hab.subset (show b ∈ [a, b] by simp)
      have h3 := (List.mem_filter.1 ha).2
      have h4 := (List.mem_filter.1 hb).2
      simp at h3 h4
      unfold ltP
      simp
      omega
    rw [ssort_filter, ssort_of_srt wkP h5] at h2
    exact (List.pairwise_iff_forall_sublist.1 (ptsL_srt plc k n)) (h2.trans List.filter_sublist)
  · exact .inl (by omega)
theorem rot_lex {plc : Nat → Nat → Nat} {n k pl : Nat} (hpl : pl < 18446744073709551616) (hp : ∀ r p, plc r p < 18446744073709551616) :
    (rotP pl (ringL plc n k)).Pairwise (fun x y => dst pl x.p < dst pl y.p ∨ (dst pl x.p = dst pl y.p ∧ x.r ≤ y.r)) := by
  have hl : ∀ x ∈ ringL plc n k, x.p < 18446744073709551616 := fun x hx => by
    obtain ⟨p, _, e⟩ := (mem_ptsL (mem_ringL.1 hx)).2
    rw [e]
    exact hp _ _
  have h := ring_lex plc n k
  have d1 : ∀ p, pl ≤ p → p < 18446744073709551616 → dst pl p = p - pl := fun p a b => by unfold dst; omega
  have d2 : ∀ p, p < pl → p < 18446744073709551616 → dst pl p = p + 18446744073709551616 - pl := fun p a b => by unfold dst; omega
  unfold rotP
  refine List.pairwise_append.2 ⟨?_, ?_, fun a ha b hb => ?_⟩
  · refine List.Pairwise.imp_of_mem (fun {a b} ha hb hab => ?_) (h.sublist List.filter_sublist)
    have a1 := List.mem_filter.1 ha
    have b1 := List.mem_filter.1 hb
    have a2 := a1.2
    have b2 := b1.2
    simp at a2 b2
    rw [d1 _ a2 (hl _ a1.1), d1 _ b2 (hl _ b1.1)]
    omega
  · refine List.Pairwise.imp_of_mem (fun {a b} ha hb hab => ?_) (h.sublist List.filter_sublist)
    have a1 := List.mem_filter.1 ha
    have b1 := List.mem_filter.1 hb
    have a2 := a1.2
    have b2 := b1.2
    simp at a2 b2
    rw [d2 _ a2 (hl _ a1.1), d2 _ b2 (hl _ b1.1)]
    omega
  · have a1 := List.mem_filter.1 ha
    have b1 := List.mem_filter.1 hb
    have a2 := a1.2
    have b2 := b1.2
    simp at a2 b2
    have h1 := hl _ a1.1
    rw [d1 _ a2 h1, d2 _ b2 (hl _ b1.1)]
    omega
theorem ddf_lex {d : Nat → Nat} {f : PtV → Nat} {tot : List PtV} (hx : tot.Pairwise (fun x y => f x < f y ∨ (f x = f y ∧ x.r ≤ y.r))) (h1 : ∀ x ∈ tot, d x.r ≤ f x) (h2 : ∀ x ∈ tot, ∃ y ∈ tot, y.r = x.r ∧ f y = d x.r) :
    ∀ (rest M : List PtV), tot = M ++ rest → (ddf [] (M.map (·.r))).Pairwise (LtW d) → (ddf (ddf [] (M.map (·.r))) (rest.map (·.r))).Pairwise (LtW d)
  | [], M, _, hp => hp
  | y :: rest, M, e, hp => by
    have hs : ddf [] ((M ++ [y]).map (·.r)) = if y.r ∈ ddf [] (M.map (·.r)) then ddf [] (M.map (·.r)) else ddf [] (M.map (·.r)) ++ [y.r] := by
      rw [List.map_append, List.map_singleton, ddf_snoc]
    have e2 : tot = (M ++ [y]) ++ rest := by rw [e]; simp
    show (ddf (if y.r ∈ ddf [] (M.map (·.r)) then ddf [] (M.map (·.r)) else ddf [] (M.map (·.r)) ++ [y.r]) (rest.map (·.r))).Pairwise (LtW d)
    rw [← hs]
    refine ddf_lex hx h1 h2 rest (M ++ [y]) e2 ?_
    rw [hs]
    split
    · exact hp
    · rename_i hni
      refine List.pairwise_append.2 ⟨hp, by simp, fun z hz b hb => ?_⟩
      obtain rfl : b = y.r := by simpa using hb
      have hz2 := hz
      rw [mem_ddf] at hz2
      simp only [List.not_mem_nil, false_or] at hz2
      obtain ⟨x, hxM, rfl⟩ := List.mem_map.1 hz2
      have hx2 := hx
      rw [e] at hx2
      obtain ⟨_, q2, q3⟩ := List.pairwise_append.1 hx2
      have hxy := q3 x hxM y (by simp)
      have hb1 := h1 x (by rw [e]; simp [hxM])
      obtain ⟨v, hv, hvr, hvf⟩ := h2 y (by rw [e]; simp)
      have hyv : f y ≤ f v := by
        rw [e] at hv
        rcases List.mem_append.1 hv with h | h
        · exact absurd (by rw [mem_ddf]; exact .inr (List.mem_map.2 ⟨v, h, hvr⟩)) hni
        · rcases List.mem_cons.1 h with h | h
          · rw [h]; exact Nat.le_refl _
          · have := (List.pairwise_cons.1 q2).1 v h
            omega
      have hne : x.r ≠ y.r := fun h => hni (h ▸ hz)
      unfold LtW
      omega
/-- The order in which a key comes to replicas is the document's. -/
theorem walk_ref {plc : Nat → Nat → Nat} {n k pl : Nat} (hk : 1 ≤ k) (hpl : pl < 18446744073709551616) (hp : ∀ r p, plc r p < 18446744073709551616) :
    walkV pl (ringL plc n k) = refW (fun r => nearR plc pl r k) n := by
  have hm : ∀ x, x ∈ rotP pl (ringL plc n k) ↔ x ∈ ringL plc n k := fun x => by
    unfold rotP
    simp only [List.mem_append, List.mem_filter, decide_eq_true_eq]
    constructor
    · rintro (h | h) <;> exact h.1
    · intro h
      rcases Nat.lt_or_ge x.p pl with e | e
      · exact .inr ⟨h, e⟩
      · exact .inl ⟨h, e⟩
  refine eq_of_strict (d := fun r => nearR plc pl r k) ?_ (refW_srt _ n) fun z => ?_
  · refine ddf_lex (f := fun x => dst pl x.p) (rot_lex (plc := plc) (n := n) (k := k) hpl hp) (fun x hx => ?_) (fun x hx => ?_) _ [] rfl (by simp [ddf])
    · obtain ⟨_, p, hpk, e⟩ := mem_ptsL (mem_ringL.1 ((hm x).1 hx))
      rw [e]
      exact nearR_le plc pl x.r k p hpk
    · obtain ⟨hr, _⟩ := mem_ptsL (mem_ringL.1 ((hm x).1 hx))
      obtain ⟨p, hpk, e⟩ := nearR_is plc pl x.r k hk
      exact ⟨⟨plc x.r p, x.r⟩, (hm _).2 (mem_ringL.2 (ptsL_has plc hr hpk)), rfl, e.symm⟩
  · rw [mem_walkV, mem_refW]
    constructor
    · rintro ⟨x, hx, rfl⟩
      exact (mem_ptsL (mem_ringL.1 hx)).1
    · intro hz
      exact ⟨⟨plc z 0, z⟩, mem_ringL.2 (ptsL_has plc hz hk), rfl⟩
/-- What stands at a place and what is put in there. -/
theorem refW_cut (d : Nat → Nat) (n a : Nat) (ha : a ≤ n) (h1 : a = 0 ∨ d ((refW d n).getD (a - 1) 0) ≤ d n) (h2 : ∀ j, a ≤ j → j < n → d n < d ((refW d n).getD j 0)) :
    refW d (n + 1) = (refW d n).take a ++ n :: (refW d n).drop a := by
  have hl := refW_len d n
  have hs := refW_srt d n
  have a1 : ∀ z ∈ (refW d n).take a, d z ≤ d n := fun z hz => by
    obtain ⟨j, hj, rfl⟩ := List.mem_iff_getElem.1 hz
    rw [List.length_take] at hj
    rw [List.getElem_take]
    rcases h1 with h1 | h1
    · omega
    · rw [List.getD_eq_getElem?_getD, List.getElem?_eq_getElem (by omega)] at h1
      simp only [Option.getD_some] at h1
      rcases Nat.lt_or_ge j (a - 1) with h | h
      · have := List.pairwise_iff_getElem.1 hs j (a - 1) (by omega) (by omega) h
        unfold LtW at this
        omega
      · have : j = a - 1 := by omega
        subst this
        exact h1
  have a2 : ∀ z ∈ (refW d n).drop a, d n < d z := fun z hz => by
    obtain ⟨j, hj, rfl⟩ := List.mem_iff_getElem.1 hz
    rw [List.length_drop] at hj
    rw [List.getElem_drop]
    have := h2 (a + j) (by omega) (by omega)
    rw [List.getD_eq_getElem?_getD, List.getElem?_eq_getElem (by omega)] at this
    exact this
  have e : refW d (n + 1) = (refW d n).filter (fun z => decide (d z ≤ d n)) ++ n :: (refW d n).filter (fun z => decide (d n < d z)) := rfl
  rw [e]
  have e1 := List.take_append_drop a (refW d n)
  conv => lhs; rw [← e1]
  rw [List.filter_append, List.filter_append]
  rw [List.filter_eq_self.2 (fun x hx => by have := a1 x hx; simpa using this), List.filter_eq_nil_iff.2 (fun x hx => by have := a2 x hx; simp; omega), List.filter_eq_nil_iff.2 (fun x hx => by have := a1 x hx; simp; omega), List.filter_eq_self.2 (fun x hx => by have := a2 x hx; simpa using this)]
  simp
end Go.Proofs.YtkhmghmilnfngaaDoor
