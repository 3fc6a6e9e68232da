/-
  Merged: Rgp Rgq Rgr Ri Rgs.
-/
import Derived.Test.YtegfnlnbhhmkjaaDoorRga
import Derived.Test.YtegfnlnbhhmkjaaDoorRF
import Derived.Test.YtegfnlnbhhmkjaaDoorRR
import Derived.Test.YtegfnlnbhhmkjaaDoorDn
import Derived.Test.YtegfnlnbhhmkjaaDoorRB
import Derived.Test.YtegfnlnbhhmkjaaDoorFj
import Derived.OneCell
import Derived.Laws.OwnMore
import Derived.Test.YtegfnlnbhhmkjaaDoorOa
namespace Go.Proofs.YtegfnlnbhhmkjaaDoor
set_option maxRecDepth 100000
open Go.Sort
set_option linter.unusedVariables false
set_option linter.unusedSectionVars false
set_option linter.unusedSimpArgs false

/-- How far behind a key's place a place is. -/
def dst (pl p : Nat) : Nat := (p + 18446744073709551616 - pl) % 18446744073709551616
/-- How far behind a key a replica's first point is. -/
def nearR (plc : Nat → Nat → Nat) (pl r : Nat) : Nat → Nat
  | 0 => 18446744073709551615
  | k + 1 => min (nearR plc pl r k) (dst pl (plc r k))
theorem nearR_le (plc : Nat → Nat → Nat) (pl r : Nat) : ∀ k p, p < k → nearR plc pl r k ≤ dst pl (plc r p)
  | k + 1, p, h => by
    unfold nearR
    rcases Nat.lt_or_ge p k with h1 | h1
    · exact Nat.le_trans (Nat.min_le_left _ _) (nearR_le plc pl r k p h1)
    · obtain rfl : p = k := by omega
      exact Nat.min_le_right _ _
theorem dst_lt (pl p : Nat) : dst pl p < 18446744073709551616 := Nat.mod_lt _ (by omega)
theorem nearR_is (plc : Nat → Nat → Nat) (pl r : Nat) : ∀ k, 1 ≤ k → ∃ p, p < k ∧ nearR plc pl r k = dst pl (plc r p)
  | 1, _ => ⟨0, by omega, by
      have := dst_lt pl (plc r 0)
      unfold nearR nearR
      omega⟩
  | k + 2, _ => by
    obtain ⟨p, hp, e⟩ := nearR_is plc pl r (k + 1) (by omega)
    rcases Nat.le_total (nearR plc pl r (k + 1)) (dst pl (plc r (k + 1))) with h | h
    · exact ⟨p, by omega, by show min (nearR plc pl r (k + 1)) (dst pl (plc r (k + 1))) = _; rw [Nat.min_eq_left h, e]⟩
    · exact ⟨k + 1, by omega, Nat.min_eq_right h⟩
theorem nearR_lt (plc : Nat → Nat → Nat) (pl r : Nat) : ∀ k, nearR plc pl r k < 18446744073709551616
  | 0 => by unfold nearR; omega
  | k + 1 => Nat.lt_of_le_of_lt (Nat.min_le_left _ _) (nearR_lt plc pl r k)
/-- Ahead by d, and of one d by its number. -/
def LtW (d : Nat → Nat) (a b : Nat) : Prop := d a < d b ∨ (d a = d b ∧ a < b)
theorem LtW.irr (d : Nat → Nat) (a : Nat) : ¬ LtW d a a := by unfold LtW; omega
theorem LtW.asym {d : Nat → Nat} {a b : Nat} (h : LtW d a b) : ¬ LtW d b a := by unfold LtW at *; omega
theorem eq_of_strict {d : Nat → Nat} : ∀ {l l' : List Nat}, l.Pairwise (LtW d) → l'.Pairwise (LtW d) → (∀ x, x ∈ l ↔ x ∈ l') → l = l'
  | [], [], _, _, _ => rfl
  | [], b :: l', _, _, h => absurd ((h b).2 (by simp)) (by simp)
  | a :: l, [], _, _, h => absurd ((h a).1 (by simp)) (by simp)
  | a :: l, b :: l', h1, h2, h => by
    obtain ⟨p1, q1⟩ := List.pairwise_cons.1 h1
    obtain ⟨p2, q2⟩ := List.pairwise_cons.1 h2
    have e : a = b := by
      rcases List.mem_cons.1 ((h a).1 (by simp)) with e | e
      · exact e
      · rcases List.mem_cons.1 ((h b).2 (by simp)) with e' | e'
        · exact e'.symm
        · exact absurd (p1 b e') (LtW.asym (p2 a e))
    subst e
    congr 1
    refine eq_of_strict q1 q2 fun x => ?_
    constructor
    · intro hx
      rcases List.mem_cons.1 ((h x).1 (by simp [hx])) with e | e
      · subst e; exact absurd (p1 x hx) (LtW.irr d x)
      · exact e
    · intro hx
      rcases List.mem_cons.1 ((h x).2 (by simp [hx])) with e | e
      · subst e; exact absurd (p2 x hx) (LtW.irr d x)
      · exact e
/-- The document's order: each replica put in among those ahead of it by number. -/
def refW (d : Nat → Nat) : Nat → List Nat
  | 0 => []
  | n + 1 => (refW d n).filter (fun z => decide (d z ≤ d n)) ++ n :: (refW d n).filter (fun z => decide (d n < d z))
theorem mem_refW (d : Nat → Nat) : ∀ n z, z ∈ refW d n ↔ z < n
  | 0, z => by simp [refW]
  | n + 1, z => by
    have h := mem_refW d n z
    unfold refW
    simp only [List.mem_append, List.mem_cons, List.mem_filter, decide_eq_true_eq, h]
    omega
theorem refW_srt (d : Nat → Nat) : ∀ n, (refW d n).Pairwise (LtW d)
  | 0 => by simp [refW]
  | n + 1 => by
    have h := refW_srt d n
    unfold refW
    refine List.pairwise_append.2 ⟨h.sublist List.filter_sublist, List.pairwise_cons.2 ⟨fun b hb => ?_, h.sublist List.filter_sublist⟩, fun a ha b hb => ?_⟩
    · have := (List.mem_filter.1 hb).2
      simp at this
      exact .inl this
    · have h1 := List.mem_filter.1 ha
      have h2 := (mem_refW d n a).1 h1.1
      have h3 := h1.2
      simp at h3
      rcases List.mem_cons.1 hb with e | e
      · subst e
        unfold LtW
        omega
      · have h4 := (List.mem_filter.1 e).2
        simp at h4
        unfold LtW
        omega
theorem refW_len (d : Nat → Nat) : ∀ n, (refW d n).length = n
  | 0 => rfl
  | n + 1 => by
    have h := refW_len d n
    unfold refW
    rw [List.length_append, List.length_cons]
    have : ∀ l : List Nat, (l.filter (fun z => decide (d z ≤ d n))).length + (l.filter (fun z => decide (d n < d z))).length = l.length := fun l => by
      induction l with
      | nil => rfl
      | cons x l ih =>
        by_cases hx : d x ≤ d n
        · rw [List.filter_cons_of_pos (by simpa using hx), List.filter_cons_of_neg (by simp; omega)]
          simp only [List.length_cons]
          omega
        · rw [List.filter_cons_of_neg (by simpa using hx), List.filter_cons_of_pos (by simp; omega)]
          simp only [List.length_cons]
          omega
    have := this (refW d n)
    omega
theorem ptsL_srt (plc : Nat → Nat → Nat) (k : Nat) : ∀ n, (ptsL plc n k).Pairwise (fun x y => x.r ≤ y.r)
  | 0 => by simp [ptsL]
  | n + 1 => by
    rw [ptsL_succ]
    refine List.pairwise_append.2 ⟨ptsL_srt plc k n, ?_, fun a ha b hb => ?_⟩
    · unfold ptsR
      rw [List.pairwise_map]
      exact List.pairwise_iff_forall_sublist.2 fun _ => Nat.le_refl _
    · have h1 := (mem_ptsL ha).1
      unfold ptsR at hb
      obtain ⟨p, _, rfl⟩ := List.mem_map.1 hb
      show a.r ≤ n
      omega
theorem ring_lex (plc : Nat → Nat → Nat) (n k : Nat) : (ringL plc n k).Pairwise (fun x y => x.p < y.p ∨ (x.p = y.p ∧ x.r ≤ y.r)) := by
  refine List.pairwise_iff_forall_sublist.2 fun {x y} h => ?_
  have h1 : ltP y x = false := (List.pairwise_iff_forall_sublist.1 (ringL_srt plc n k)) h
  unfold ltP at h1
  simp at h1
  by_cases e : x.p = y.p
  · refine .inr ⟨e, ?_⟩
    have h2 := h.filter (fun z => decide (z.p = x.p))
    have e2 : [x, y].filter (fun z => decide (z.p = x.p)) = [x, y] := by simp [e]
    rw [e2] at h2
    unfold ringL at h2
    have h5 : Srt ltP ((ptsL plc n k).filter (fun z => decide (z.p = x.p))) := by
      refine List.pairwise_iff_forall_sublist.2 fun {a b} hab => ?_
      have ha := hab.subset (show a ∈ [a, b] by simp)
      have hb := hab.subset (show b ∈ [a, b] by simp)
      have h3 := (List.mem_filter.1 ha).2
      have h4 := (List.mem_filter.1 hb).2
      simp at h3 h4
      unfold ltP
      simp
      omega
    rw [ssort_filter, ssort_of_srt wkP h5] at h2
    exact (List.pairwise_iff_forall_sublist.1 (ptsL_srt plc k n)) (h2.trans List.filter_sublist)
  · exact .inl (by omega)
theorem rot_lex {plc : Nat → Nat → Nat} {n k pl : Nat} (hpl : pl < 18446744073709551616) (hp : ∀ r p, plc r p < 18446744073709551616) :
    (rotP pl (ringL plc n k)).Pairwise (fun x y => dst pl x.p < dst pl y.p ∨ (dst pl x.p = dst pl y.p ∧ x.r ≤ y.r)) := by
  have hl : ∀ x ∈ ringL plc n k, x.p < 18446744073709551616 := fun x hx => by
    obtain ⟨p, _, e⟩ := (mem_ptsL (mem_ringL.1 hx)).2
    rw [e]
    exact hp _ _
  have h := ring_lex plc n k
  have d1 : ∀ p, pl ≤ p → p < 18446744073709551616 → dst pl p = p - pl := fun p a b => by unfold dst; omega
  have d2 : ∀ p, p < pl → p < 18446744073709551616 → dst pl p = p + 18446744073709551616 - pl := fun p a b => by unfold dst; omega
  unfold rotP
  refine List.pairwise_append.2 ⟨?_, ?_, fun a ha b hb => ?_⟩
  · refine List.Pairwise.imp_of_mem (fun {a b} ha hb hab => ?_) (h.sublist List.filter_sublist)
    have a1 := List.mem_filter.1 ha
    have b1 := List.mem_filter.1 hb
    have a2 := a1.2
    have b2 := b1.2
    simp at a2 b2
    rw [d1 _ a2 (hl _ a1.1), d1 _ b2 (hl _ b1.1)]
    omega
  · refine List.Pairwise.imp_of_mem (fun {a b} ha hb hab => ?_) (h.sublist List.filter_sublist)
    have a1 := List.mem_filter.1 ha
    have b1 := List.mem_filter.1 hb
    have a2 := a1.2
    have b2 := b1.2
    simp at a2 b2
    rw [d2 _ a2 (hl _ a1.1), d2 _ b2 (hl _ b1.1)]
    omega
  · have a1 := List.mem_filter.1 ha
    have b1 := List.mem_filter.1 hb
    have a2 := a1.2
    have b2 := b1.2
    simp at a2 b2
    have h1 := hl _ a1.1
    rw [d1 _ a2 h1, d2 _ b2 (hl _ b1.1)]
    omega
theorem ddf_lex {d : Nat → Nat} {f : PtV → Nat} {tot : List PtV} (hx : tot.Pairwise (fun x y => f x < f y ∨ (f x = f y ∧ x.r ≤ y.r))) (h1 : ∀ x ∈ tot, d x.r ≤ f x) (h2 : ∀ x ∈ tot, ∃ y ∈ tot, y.r = x.r ∧ f y = d x.r) :
    ∀ (rest M : List PtV), tot = M ++ rest → (ddf [] (M.map (·.r))).Pairwise (LtW d) → (ddf (ddf [] (M.map (·.r))) (rest.map (·.r))).Pairwise (LtW d)
  | [], M, _, hp => hp
  | y :: rest, M, e, hp => by
    have hs : ddf [] ((M ++ [y]).map (·.r)) = if y.r ∈ ddf [] (M.map (·.r)) then ddf [] (M.map (·.r)) else ddf [] (M.map (·.r)) ++ [y.r] := by
      rw [List.map_append, List.map_singleton, ddf_snoc]
    have e2 : tot = (M ++ [y]) ++ rest := by rw [e]; simp
    show (ddf (if y.r ∈ ddf [] (M.map (·.r)) then ddf [] (M.map (·.r)) else ddf [] (M.map (·.r)) ++ [y.r]) (rest.map (·.r))).Pairwise (LtW d)
    rw [← hs]
    refine ddf_lex hx h1 h2 rest (M ++ [y]) e2 ?_
    rw [hs]
    split
    · exact hp
    · rename_i hni
      refine List.pairwise_append.2 ⟨hp, by simp, fun z hz b hb => ?_⟩
      obtain rfl : b = y.r := by simpa using hb
      have hz2 := hz
      rw [mem_ddf] at hz2
      simp only [List.not_mem_nil, false_or] at hz2
      obtain ⟨x, hxM, rfl⟩ := List.mem_map.1 hz2
      have hx2 := hx
      rw [e] at hx2
      obtain ⟨_, q2, q3⟩ := List.pairwise_append.1 hx2
      have hxy := q3 x hxM y (by simp)
      have hb1 := h1 x (by rw [e]; simp [hxM])
      obtain ⟨v, hv, hvr, hvf⟩ := h2 y (by rw [e]; simp)
      have hyv : f y ≤ f v := by
        rw [e] at hv
        rcases List.mem_append.1 hv with h | h
        · exact absurd (by rw [mem_ddf]; exact .inr (List.mem_map.2 ⟨v, h, hvr⟩)) hni
        · rcases List.mem_cons.1 h with h | h
          · rw [h]; exact Nat.le_refl _
          · have := (List.pairwise_cons.1 q2).1 v h
            omega
      have hne : x.r ≠ y.r := fun h => hni (h ▸ hz)
      unfold LtW
      omega
/-- The order in which a key comes to replicas is the document's. -/
theorem walk_ref {plc : Nat → Nat → Nat} {n k pl : Nat} (hk : 1 ≤ k) (hpl : pl < 18446744073709551616) (hp : ∀ r p, plc r p < 18446744073709551616) :
    walkV pl (ringL plc n k) = refW (fun r => nearR plc pl r k) n := by
  have hm : ∀ x, x ∈ rotP pl (ringL plc n k) ↔ x ∈ ringL plc n k := fun x => by
    unfold rotP
    simp only [List.mem_append, List.mem_filter, decide_eq_true_eq]
    constructor
    · rintro (h | h) <;> exact h.1
    · intro h
      rcases Nat.lt_or_ge x.p pl with e | e
      · exact .inr ⟨h, e⟩
      · exact .inl ⟨h, e⟩
  refine eq_of_strict (d := fun r => nearR plc pl r k) ?_ (refW_srt _ n) fun z => ?_
  · refine ddf_lex (f := fun x => dst pl x.p) (rot_lex (plc := plc) (n := n) (k := k) hpl hp) (fun x hx => ?_) (fun x hx => ?_) _ [] rfl (by simp [ddf])
    · obtain ⟨_, p, hpk, e⟩ := mem_ptsL (mem_ringL.1 ((hm x).1 hx))
      rw [e]
      exact nearR_le plc pl x.r k p hpk
    · obtain ⟨hr, _⟩ := mem_ptsL (mem_ringL.1 ((hm x).1 hx))
      obtain ⟨p, hpk, e⟩ := nearR_is plc pl x.r k hk
      exact ⟨⟨plc x.r p, x.r⟩, (hm _).2 (mem_ringL.2 (ptsL_has plc hr hpk)), rfl, e.symm⟩
  · rw [mem_walkV, mem_refW]
    constructor
    · rintro ⟨x, hx, rfl⟩
      exact (mem_ptsL (mem_ringL.1 hx)).1
    · intro hz
      exact ⟨⟨plc z 0, z⟩, mem_ringL.2 (ptsL_has plc hz hk), rfl⟩
/-- What stands at a place and what is put in there. -/
theorem refW_cut (d : Nat → Nat) (n a : Nat) (ha : a ≤ n) (h1 : a = 0 ∨ d ((refW d n).getD (a - 1) 0) ≤ d n) (h2 : ∀ j, a ≤ j → j < n → d n < d ((refW d n).getD j 0)) :
    refW d (n + 1) = (refW d n).take a ++ n :: (refW d n).drop a := by
  have hl := refW_len d n
  have hs := refW_srt d n
  have a1 : ∀ z ∈ (refW d n).take a, d z ≤ d n := fun z hz => by
    obtain ⟨j, hj, rfl⟩ := List.mem_iff_getElem.1 hz
    rw [List.length_take] at hj
    rw [List.getElem_take]
    rcases h1 with h1 | h1
    · omega
    · rw [List.getD_eq_getElem?_getD, List.getElem?_eq_getElem (by omega)] at h1
      simp only [Option.getD_some] at h1
      rcases Nat.lt_or_ge j (a - 1) with h | h
      · have := List.pairwise_iff_getElem.1 hs j (a - 1) (by omega) (by omega) h
        unfold LtW at this
        omega
      · have : j = a - 1 := by omega
        subst this
        exact h1
  have a2 : ∀ z ∈ (refW d n).drop a, d n < d z := fun z hz => by
    obtain ⟨j, hj, rfl⟩ := List.mem_iff_getElem.1 hz
    rw [List.length_drop] at hj
    rw [List.getElem_drop]
    have := h2 (a + j) (by omega) (by omega)
    rw [List.getD_eq_getElem?_getD, List.getElem?_eq_getElem (by omega)] at this
    exact this
  have e : refW d (n + 1) = (refW d n).filter (fun z => decide (d z ≤ d n)) ++ n :: (refW d n).filter (fun z => decide (d n < d z)) := rfl
  rw [e]
  have e1 := List.take_append_drop a (refW d n)
  conv => lhs; rw [← e1]
  rw [List.filter_append, List.filter_append]
  rw [List.filter_eq_self.2 (fun x hx => by have := a1 x hx; simpa using this), List.filter_eq_nil_iff.2 (fun x hx => by have := a2 x hx; simp; omega), List.filter_eq_nil_iff.2 (fun x hx => by have := a1 x hx; simp; omega), List.filter_eq_self.2 (fun x hx => by have := a2 x hx; simpa using this)]
  simp
end Go.Proofs.YtegfnlnbhhmkjaaDoor

namespace Go.Proofs.YtegfnlnbhhmkjaaDoor
set_option maxRecDepth 100000
open Go.ChangeShapes Go.WideShapes Go.ChangeAt Go.RowKit
set_option linter.unusedVariables false
set_option linter.unusedSimpArgs false

def U64P (w : World) (z : Nat) (e : Ending) (w' : World) : Prop := e = .returned (.int .u64 (z : Int)) ∧ Below w.heap.size w w'
theorem run_minU (a d n : Nat) (hn : n = min a d) (w : World) (ts : Array TypeId) (t : TypeId) :
    (Builtin.min_ ts t #[.int .u64 (a : Int), .int .u64 (d : Int)]).run Tryd.prog w = .ok (.int .u64 (n : Int)) w := by
  simp [Builtin.min_, Builtin.min2]
  repeat' split
  all_goals omega
theorem plcS_lt (r p : Nat) : plcS r p < 18446744073709551616 := plB_lt _
theorem dst_wrap (pl p : Nat) (h1 : pl < 18446744073709551616) (h2 : p < 18446744073709551616) : IntKind.u64.wrap ((p : Int) - (pl : Int)) = ((dst pl p : Nat) : Int) := by
  rw [IntKind.wrap_u64]
  unfold dst
  omega
end Go.Proofs.YtegfnlnbhhmkjaaDoor

namespace Go.Proofs.YtegfnlnbhhmkjaaDoor
set_option maxRecDepth 100000
open Go.ChangeShapes Go.WideShapes Go.ChangeAt Go.RowKit
set_option linter.unusedVariables false
set_option linter.unusedSectionVars false
set_option linter.unusedSimpArgs false

/-- Two stores under way: nothing stored; the first; both. -/
def StW (wA : World) (p1 : Addr) (v1 : Value) (p2 : Addr) (v2 : Value) (s1 s2 L1 L2 : Nat) (D : Nat → Bool) (W : World) : Prop :=
  (D s1 = false ∧ D s2 = false ∧ wA = W) ∨ (D s1 = true ∧ D s2 = false ∧ D L1 = true ∧ D L2 = true ∧ wA.setCell p1 v1 = W) ∨ (D s1 = true ∧ D s2 = true ∧ D L1 = true ∧ D L2 = true ∧ (wA.setCell p1 v1).setCell p2 v2 = W)
section
variable {wA W W1 : World} {p1 p2 : Addr} {v1 v2 : Value} {s1 s2 L1 L2 : Nat} {D : Nat → Bool}
theorem StW.same (h : StW wA p1 v1 p2 v2 s1 s2 L1 L2 D W) (i : Nat) (h1 : i ≠ s1) (h2 : i ≠ s2) : StW wA p1 v1 p2 v2 s1 s2 L1 L2 (fun j => decide (j = i) || D j) W := by
  rcases h with ⟨a, b, c⟩ | ⟨a, b, c, d, e⟩ | ⟨a, b, c, d, e⟩
  · exact .inl ⟨by simp [a, Ne.symm h1], by simp [b, Ne.symm h2], c⟩
  · exact .inr (.inl ⟨by simp [a], by simp [b, Ne.symm h2], by simp [c], by simp [d], e⟩)
  · exact .inr (.inr ⟨by simp [a], by simp [b], by simp [c], by simp [d], e⟩)
theorem StW.early (h : StW wA p1 v1 p2 v2 s1 s2 L1 L2 D W) {i : Nat} (hi : i = L1 ∨ i = L2) (hL : D i = false) : W = wA := by
  rcases h with ⟨a, b, c⟩ | ⟨a, b, c, d, e⟩ | ⟨a, b, c, d, e⟩
  · exact c.symm
  · rcases hi with rfl | rfl
    · rw [c] at hL; cases hL
    · rw [d] at hL; cases hL
  · rcases hi with rfl | rfl
    · rw [c] at hL; cases hL
    · rw [d] at hL; cases hL
theorem StW.at1 (h : StW wA p1 v1 p2 v2 s1 s2 L1 L2 D W) (hL : D s1 = false) (h1 : D L1 = true) (h2 : D L2 = true) : W = wA := by
  rcases h with ⟨a, b, c⟩ | ⟨a, b, c, d, e⟩ | ⟨a, b, c, d, e⟩
  · exact c.symm
  · rw [a] at hL; cases hL
  · rw [a] at hL; cases hL
theorem StW.no2 (h : StW wA p1 v1 p2 v2 s1 s2 L1 L2 D W) (hL : D s1 = false) : D s2 = false := by
  rcases h with ⟨a, b, c⟩ | ⟨a, b, c, d, e⟩ | ⟨a, b, c, d, e⟩
  · exact b
  · rw [a] at hL; cases hL
  · rw [a] at hL; cases hL
theorem StW.one (h1 : D L1 = true) (h2 : D L2 = true) (hne : s2 ≠ s1) (h3 : D s2 = false) : StW wA p1 v1 p2 v2 s1 s2 L1 L2 (fun j => decide (j = s1) || D j) (wA.setCell p1 v1) :=
  .inr (.inl ⟨by simp, by simp [hne, h3], by simp [h1], by simp [h2], rfl⟩)
theorem StW.at2 (h : StW wA p1 v1 p2 v2 s1 s2 L1 L2 D W) (hL : D s2 = false) (h1 : D s1 = true) : W = wA.setCell p1 v1 := by
  rcases h with ⟨a, b, c⟩ | ⟨a, b, c, d, e⟩ | ⟨a, b, c, d, e⟩
  · rw [a] at h1; cases h1
  · exact e.symm
  · rw [b] at hL; cases hL
theorem StW.two (h : StW wA p1 v1 p2 v2 s1 s2 L1 L2 D W) (h1 : D s1 = true) (hne : s1 ≠ s2) : StW wA p1 v1 p2 v2 s1 s2 L1 L2 (fun j => decide (j = s2) || D j) ((wA.setCell p1 v1).setCell p2 v2) := by
  rcases h with ⟨a, b, c⟩ | ⟨a, b, c, d, e⟩ | ⟨a, b, c, d, e⟩
  · rw [a] at h1; cases h1
  · exact .inr (.inr ⟨by simp [a], by simp, by simp [c], by simp [d], rfl⟩)
  · exact .inr (.inr ⟨by simp [a], by simp, by simp [c], by simp [d], rfl⟩)
theorem StW.end_ (h : StW wA p1 v1 p2 v2 s1 s2 L1 L2 D W) (h2 : D s2 = true) : W = (wA.setCell p1 v1).setCell p2 v2 := by
  rcases h with ⟨a, b, c⟩ | ⟨a, b, c, d, e⟩ | ⟨a, b, c, d, e⟩
  · rw [b] at h2; cases h2
  · rw [b] at h2; cases h2
  · exact e.symm
end
def WkR (b1 b2 q c6 c8 a s x y : Nat) : Nat → Value → World → Prop
  | 0, v, _ => v = .slice (some ⟨b1, 0, none⟩) q c6
  | 1, v, _ => v = .int .i64 (a : Int)
  | 2, v, _ => v = .slice (some ⟨b2, 0, none⟩) q c8
  | 3, v, _ => v = .int .i64 (a : Int)
  | 4, v, _ => v = .slice (some ⟨b1, 0, none⟩) q c6
  | 5, v, _ => v = .int .i64 (a : Int)
  | 6, v, _ => v = .int .i64 (s : Int)
  | 7, v, _ => v = .pointer (some ⟨b1, s, none⟩)
  | 8, v, _ => v = .int .i64 (x : Int)
  | 9, v, _ => v = .slice (some ⟨b2, 0, none⟩) q c8
  | 10, v, _ => v = .int .i64 (a : Int)
  | 11, v, _ => v = .int .i64 (s : Int)
  | 12, v, _ => v = .pointer (some ⟨b2, s, none⟩)
  | 13, v, _ => v = .int .u64 (y : Int)
  | 14, v, _ => v = .pointer (some ⟨b1, a, none⟩)
  | 16, v, _ => v = .pointer (some ⟨b2, a, none⟩)
  | _, _, _ => True
theorem WkR.any {b1 b2 q c6 c8 a s x y : Nat} {j : Nat} {v : Value} {W W' : World} (hh : WkR b1 b2 q c6 c8 a s x y j v W) : WkR b1 b2 q c6 c8 a s x y j v W' := by
  unfold WkR at hh ⊢
  split at hh <;> first | exact hh | trivial
section
variable {W : World} {base b n c i : Nat} {l : List Nat}
theorem OwnZ.put (h : OwnZ W base (.slice (some ⟨b, 0, none⟩) n c) l) (i x : Nat) : OwnZ (W.setCell ⟨b, i, none⟩ (.int .i64 (x : Int))) base (.slice (some ⟨b, 0, none⟩) n c) (l.set i x) := by
  obtain ⟨_, rfl⟩ := h.rd
  have h2 := (World.ownsRow.stored h i (.int .i64 (x : Int))).1
  have e : (rowZ l).toList.set i (.int .i64 (x : Int)) = (rowZ (l.set i x)).toList := by rw [← rowZ_set, Array.toList_setIfInBounds]
  rw [e] at h2
  unfold OwnZ
  rw [List.length_set]
  exact h2
theorem OwnU.put (h : OwnU W base (.slice (some ⟨b, 0, none⟩) n c) l) (i x : Nat) : OwnU (W.setCell ⟨b, i, none⟩ (.int .u64 (x : Int))) base (.slice (some ⟨b, 0, none⟩) n c) (l.set i x) := by
  obtain ⟨_, rfl⟩ := h.rd
  have h2 := (World.ownsRow.stored h i (.int .u64 (x : Int))).1
  have e : (rowU l).toList.set i (.int .u64 (x : Int)) = (rowU (l.set i x)).toList := by rw [← rowU_set, Array.toList_setIfInBounds]
  rw [e] at h2
  unfold OwnU
  rw [List.length_set]
  exact h2
theorem OwnZ.far (h : OwnZ W base (.slice (some ⟨b, 0, none⟩) n c) l) {p : Addr} (hp : b ≠ p.block) (u : Value) : OwnZ (W.setCell p u) base (.slice (some ⟨b, 0, none⟩) n c) l := ownsRow_setCell_other h (fun e => hp (by injection e)) u
theorem OwnU.far (h : OwnU W base (.slice (some ⟨b, 0, none⟩) n c) l) {p : Addr} (hp : b ≠ p.block) (u : Value) : OwnU (W.setCell p u) base (.slice (some ⟨b, 0, none⟩) n c) l := ownsRow_setCell_other h (fun e => hp (by injection e)) u
theorem OwnZ.cellf (h : OwnZ W base (.slice (some ⟨b, 0, none⟩) n c) l) (hi : i < n) : W.cell? ⟨b, i, none⟩ = some (.int .i64 ((l.getD i 0 : Nat) : Int)) ∧ W.frozen? ⟨b, i, none⟩ = false := by
  obtain ⟨_, rfl⟩ := h.rd
  refine ⟨?_, World.ownsRow.frozenAt h i⟩
  have hc := World.ownsRow.cellAt h i (by omega)
  rw [hc]
  have := rowZ_at l i hi
  simpa using this
theorem OwnU.cellf (h : OwnU W base (.slice (some ⟨b, 0, none⟩) n c) l) (hi : i < n) : W.cell? ⟨b, i, none⟩ = some (.int .u64 ((l.getD i 0 : Nat) : Int)) ∧ W.frozen? ⟨b, i, none⟩ = false := by
  obtain ⟨_, rfl⟩ := h.rd
  refine ⟨?_, World.ownsRow.frozenAt h i⟩
  have hc := World.ownsRow.cellAt h i (by omega)
  rw [hc]
  have := rowU_at l i hi
  simpa using this
end
/-- r put in at a. -/
def outZ (P : List Nat) (r a : Nat) : List Nat := P.take a ++ r :: P.drop a
theorem outZ_len {P : List Nat} {r a : Nat} (h : a ≤ P.length) : (outZ P r a).length = P.length + 1 := by
  unfold outZ
  rw [List.length_append, List.length_cons, List.length_take, List.length_drop]
  omega
theorem outZ_full {P : List Nat} {r a : Nat} (h : P.length = a) : outZ P r a = P ++ [r] := by
  unfold outZ
  rw [List.take_of_length_le (by omega), List.drop_of_length_le (by omega)]
theorem outZ_cut {P : List Nat} {a s : Nat} (ha : s + 1 = a) (h : a ≤ P.length) : P.take a = P.take s ++ [P.getD s 0] ∧ P.drop s = P.getD s 0 :: P.drop a := by
  subst ha
  refine ⟨getD_append_succ (by omega), ?_⟩
  rw [List.drop_eq_getElem_cons (by omega), List.getD_eq_getElem?_getD, List.getElem?_eq_getElem (by omega)]
  rfl
theorem outZ_at {P : List Nat} {r a s : Nat} (ha : s + 1 = a) (h : a ≤ P.length) : (outZ P r a).getD s 0 = P.getD s 0 := by
  unfold outZ
  rw [List.getD_eq_getElem?_getD, List.getElem?_append_left (by rw [List.length_take]; omega), List.getElem?_take, if_pos (by omega), ← List.getD_eq_getElem?_getD]
theorem outZ_step {P : List Nat} {r a s : Nat} (ha : s + 1 = a) (h : a ≤ P.length) : ((outZ P r a).set a (P.getD s 0)).set s r = outZ P r s := by
  obtain ⟨e1, e2⟩ := outZ_cut ha h
  have hl : (P.take s).length = s := by rw [List.length_take]; omega
  unfold outZ
  rw [e1, e2]
  generalize P.take s = T at *
  generalize P.getD s 0 = z at *
  generalize P.drop a = S at *
  subst ha hl
  simp [List.set_append]
theorem outZ_map {P : List Nat} {r a s : Nat} (d : Nat → Nat) (ha : s + 1 = a) (h : a ≤ P.length) : (((outZ P r a).map d).set a (d (P.getD s 0))).set s (d r) = (outZ P r s).map d := by
  rw [← outZ_step ha h, List.map_set, List.map_set]
theorem getD_map {d : Nat → Nat} {l : List Nat} {i : Nat} (h : i < l.length) : (l.map d).getD i 0 = d (l.getD i 0) := by
  rw [List.getD_eq_getElem?_getD, List.getD_eq_getElem?_getD, List.getElem?_map, List.getElem?_eq_getElem h]
  rfl
/-- How far behind a key its replicas' first points are. -/
def nearK (K : List UInt8) (k r : Nat) : Nat := nearR plcS (plB K) r k
/-- Two rows of a world that lie apart. -/
def TwZ (wr : World) (base b1 b2 q c1 c2 : Nat) (l m : List Nat) : Prop := OwnZ wr base (.slice (some ⟨b1, 0, none⟩) q c1) l ∧ OwnU wr base (.slice (some ⟨b2, 0, none⟩) q c2) m
theorem rdu_one (w : World) (x : Nat) : RdU (w.alloc (.cells #[.int .u64 (x : Int)] 50)) (w.alloc (.cells #[.int .u64 (x : Int)] 50)).heap.size (some ⟨w.heap.size, 0, none⟩) [x] := fun _ =>
  ⟨_, 0, rfl, by simp, fun j hj => by
    have : j = 0 := by simpa using hj
    subst this
    exact World.cell?_alloc_mark w #[.int .u64 (x : Int)] 50 _ 0⟩
theorem OwnZ.blk {w : World} {base n c : Nat} {A : Option Addr} {l : List Nat} (h : OwnZ w base (.slice A n c) l) (hn : 0 < n) : ∃ b, A = some ⟨b, 0, none⟩ := by
  rcases h.2 with ⟨hv, _⟩ | ⟨g, cap, cur, hv, _⟩
  · injection hv with e1 e2 e3
    omega
  · injection hv with e1
    exact ⟨g, e1⟩
theorem OwnU.blk {w : World} {base n c : Nat} {A : Option Addr} {l : List Nat} (h : OwnU w base (.slice A n c) l) (hn : 0 < n) : ∃ b, A = some ⟨b, 0, none⟩ := by
  rcases h.2 with ⟨hv, _⟩ | ⟨g, cap, cur, hv, _⟩
  · injection hv with e1 e2 e3
    omega
  · injection hv with e1
    exact ⟨g, e1⟩
theorem apart_swap {a b : Option Nat} (h : a = none ∨ a ≠ b) : b = none ∨ b ≠ a := by
  rcases h with rfl | h
  · cases b
    · exact .inl rfl
    · right; simp
  · exact .inr (Ne.symm h)
end Go.Proofs.YtegfnlnbhhmkjaaDoor

namespace Go.Proofs.YtegfnlnbhhmkjaaDoor
set_option maxRecDepth 100000
open Go.ChangeShapes Go.WideShapes Go.ChangeAt Go.RowKit
set_option linter.unusedVariables false
set_option linter.unusedSimpArgs false

theorem u64_natY (z : Int) : ∃ x : Nat, IntKind.u64.wrap z = (x : Int) ∧ x ≤ 18446744073709551615 := by
  have h : IntKind.u64.wrap z = z % 18446744073709551616 := by simp [IntKind.wrap, IntKind.signed, IntKind.bits]
  have h0 : 0 ≤ z % 18446744073709551616 := Int.emod_nonneg _ (by omega)
  have h1 : z % 18446744073709551616 < 18446744073709551616 := Int.emod_lt_of_pos _ (by omega)
  exact ⟨(z % 18446744073709551616).toNat, by rw [h]; omega, by omega⟩
/-- A number drawn into 0 .. m-1: what the walk wants. -/
structure RestY (z : Int) (m U R : Nat) : Prop where
  u : IntKind.u64.wrap z = (U : Int)
  t : (U : Int).tmod (m : Int) = (R : Int)
  r : (U : Int) % (m : Int) = (R : Int)
  wu : IntKind.u64.wrap (R : Int) = (R : Int)
  wi : IntKind.i64.wrap (R : Int) = (R : Int)
  lt : R < m
theorem restY (z : Int) (m : Nat) (h0 : 0 < m) (h1 : m ≤ 1000000000) : ∃ U R, RestY z m U R := by
  obtain ⟨U, hU, hb⟩ := u64_natY z
  have hlt : U % m < m := Nat.mod_lt _ h0
  have e : (U : Int) % (m : Int) = ((U % m : Nat) : Int) := by simp
  exact ⟨U, U % m, hU, by rw [Int.tmod_eq_emod_of_nonneg (by omega), e], e, IntWalk.u64_in _ (by omega), IntWalk.i64_in _ (by omega), hlt⟩

def seenA (s : List Nat) : Array Value := ((List.range 8).map fun j => Value.bool (decide (j ∈ s))).toArray
theorem seenA_get (s : List Nat) {z : Nat} (h : z < 8) : (seenA s)[z]? = some (.bool (decide (z ∈ s))) := by
  simp [seenA, h]
theorem seenA_set (s : List Nat) {z : Nat} (h : z < 8) : (seenA s).setIfInBounds z (.bool true) = seenA (s ++ [z]) := by
  apply Array.ext_getElem?
  intro j
  by_cases hj : j = z
  · subst hj
    rw [seenA_get _ h, Array.getElem?_setIfInBounds_self_of_lt (by simp [seenA, h])]
    simp
  · rw [Array.getElem?_setIfInBounds_ne (by omega)]
    by_cases h8 : j < 8
    · rw [seenA_get _ h8, seenA_get _ h8]
      simp [hj]
    · simp [seenA, h8]
theorem seenA_nil : (#[.bool false, .bool false, .bool false, .bool false, .bool false, .bool false, .bool false, .bool false] : Array Value) = seenA [] := by simp [seenA]; rfl
def PrfO (w : World) (ws : List Nat) (q : Nat) (e : Ending) (w' : World) : Prop :=
  ∃ A c, e = .returned (.tuple #[.slice A q c, .int .i64 0]) ∧ RdZ w' w'.heap.size A (ws.take q) ∧ Below w.heap.size w w'
theorem wpList_load_rowWr {P : Program} {ops : Array Oper} {rest : List Oper} {o : Oper} {a : Act} {w : World} {Q : Exit → Act → World → Prop} (hw : Region.wanted o (yielded ops a.tmps) = true) (ty : TypeId) (x : Operand) (ho : o.op = .load ty x) (g : Nat) (hx : a.eval x = .pointer (some ⟨g, 0, none⟩)) (t : TypeId) (cs : Array Value) (hb : Bk w g t cs) (d : TypeDesc)
    (hu : P.underlying ty = some d) (hd : (match d with | .struct _ | .array _ _ => true | _ => false) = true) (hi : (P.info? ty).map (·.size) = some cs.size)
    (h : wpList P ops Q rest (a.put o.dst (.agg cs)) w) : wpList P ops Q (o :: rest) a w := by
  have hrun : (loadVar ty ⟨g, 0, none⟩).run P w = .ok (.agg cs) w := run_loadVar_row _ _ _ _ _ (0, 0) _ hb hu hd hi
  refine BigFrame.wpList_want hw fun K hK => ?_
  unfold Oper.wp execOp
  simp only [ho, hx, Instr.loadAt, Instr.sureAddr, Sem.run_bind, Sem.run_pure, Result.andThen_ok, hrun]
  exact hK _ _ h
theorem getD_of {l : List Nat} {k : Nat} (h : k < l.length) : ∃ z, l.getD k 0 = z ∧ z ∈ l ∧ l.take (k + 1) = l.take k ++ [z] := by
  refine ⟨_, rfl, ?_, getD_append_succ h⟩
  rw [List.getD_eq_getElem?_getD, List.getElem?_eq_getElem h]
  exact List.getElem_mem _
theorem nodup_take {l : List Nat} (hn : l.Nodup) {k z : Nat} (h : l.take (k + 1) = l.take k ++ [z]) : z ∉ l.take k := by
  have h1 : (l.take (k + 1)).Nodup := hn.sublist (List.take_sublist _ _)
  rw [h] at h1
  have h2 := (List.nodup_append.1 h1).2.2
  intro hz
  exact h2 z hz z (by simp) rfl
end Go.Proofs.YtegfnlnbhhmkjaaDoor

namespace Go.Proofs.YtegfnlnbhhmkjaaDoor
set_option maxRecDepth 100000
open Go.ChangeShapes Go.WideShapes Go.ChangeAt Go.RowKit
set_option linter.unusedVariables false
set_option linter.unusedSimpArgs false

section
variable {P : Program} {C : World → Prop} {ops : Array Oper} {rest : List Oper} {o : Oper} {a : Act} {w : World} {Q : Exit → Act → World → Prop} {K0 : Act → Prop}
/-- A whole row, read in a quiet region. -/
theorem quiet_load_row (ty : TypeId) (x : Operand) (ho : o.op = .load ty x) (g : Nat) (hx : a.eval x = .pointer (some ⟨g, 0, none⟩)) (t : TypeId) (cs : Array Value) (d : TypeDesc)
    (hu : P.underlying ty = some d) (hd : (match d with | .struct _ | .array _ _ => true | _ => false) = true) (hi : (P.info? ty).map (·.size) = some cs.size)
    (hC : ∀ W, C W → Bk W g t cs) (hk : K0 (a.put o.dst (.agg cs))) : o.quiet P a C K0 :=
  quiet_run (.agg cs) (fun W hW => by
    have hrun : (loadVar ty ⟨g, 0, none⟩).run P W = .ok (.agg cs) W := run_loadVar_row _ _ _ _ _ (0, 0) _ (hC W hW) hu hd hi
    unfold execOp
    simp only [ho, hx, Instr.loadAt, Instr.sureAddr, Sem.run_bind, Sem.run_pure, Result.andThen_ok, hrun]) hk

end
theorem sizeB_ (W : World) : (sizeOf (Tryd.prog.elem 23)).run Tryd.prog W = .ok 1 W := by
  have he : Tryd.prog.elem 23 = 5 := by kernel_rfl
  rw [he]
  obtain ⟨i, hi, hz, hsize, hby⟩ := info_parts info8
  simp [sizeOf, typeInfo, hi, hsize]
theorem slice_allB (g : Nat) (W : World) :
    (Instr.sliceAt 23 (.pointer (some ⟨g, 0, none⟩)) none none none).run Tryd.prog W = .ok (.slice (some ⟨g, 0, none⟩) 32 32) W := by
  have he : Tryd.prog.elem 23 = 5 := by kernel_rfl
  have hn : Tryd.prog.arrayLen 23 = 32 := by kernel_rfl
  have hs : Tryd.prog.cellsOf (Tryd.prog.elem 23) = 1 := by kernel_rfl
  have ht : Tryd.prog.underlying 23 = some (.array (Tryd.prog.arrayLen 23) (Tryd.prog.elem 23)) := by rw [he, hn]; exact Tryd.underlying23
  rw [run_sliceAt_array_all W 23 ⟨g, 0, none⟩ ht, sizeB_, hn]
  rfl
theorem rd_bk {w : World} {g : Nat} {t : TypeId} {l : List UInt8} (h : Bk w g t (rowOf l)) : Rd w w.heap.size (some ⟨g, 0, none⟩) l := fun _ => ⟨g, 0, rfl, h.lt, fun j hj => by rw [Nat.zero_add]; exact (h.cell j).trans (rowOf_at l j hj)⟩

set_option maxRecDepth 100000 in
set_option maxHeartbeats 2000000 in
theorem walk_nil (w : World) (K : List UInt8) : Calls Tryd.prog 18 #[.pointer none, .agg (rowOf K)] w fun e w' => e = .returned (.slice none 0 0) ∧ Below w.heap.size w w' := by
  have B1 := hidrg_ ((Below.refl w.heap.size w).alloc (Nat.le_refl _) (.cells (rowOf K) 23))
  go_enter Tryd.func18, Tryd.ntmps18
  go_wp2
  go_ret
  exact ⟨rfl, B1.out⟩
set_option maxRecDepth 100000 in
set_option maxHeartbeats 2000000 in
theorem stand_nil (w : World) (K : List UInt8) (hK : K.length = 32) : Calls Tryd.prog 7 #[.pointer none, .agg (rowOf K), .int .i64 1, .slice none 0 0] w fun e w' => e = .returned (.tuple #[.slice none 0 0, .int .i64 1]) ∧ Below w.heap.size w w' := by
  obtain ⟨gk, hgk⟩ : ∃ g, w.heap.size = g := ⟨_, rfl⟩
  obtain ⟨w0, hw0⟩ : ∃ W, w.alloc (.cells (rowOf K) 23) = W := ⟨_, rfl⟩
  have b0 : Below w.heap.size w w0 := by rw [← hw0]; exact (Below.refl _ _).alloc (Nat.le_refl _) _
  have k0 : Bk w0 gk 23 (rowOf K) := by rw [← hw0, ← hgk]; exact Bk.new w _ _
  obtain ⟨w1, hw1⟩ : ∃ W, w0.alloc (.cells #[.slice none 0 0] 24) = W := ⟨_, rfl⟩
  have B1 := hidrg_ (show Below w.heap.size w w1 by rw [← hw1]; exact b0.alloc b0.size _)
  have K1 := hidrg_ (show Bk w1 gk 23 (rowOf K) by rw [← hw1]; exact k0.alloc _)
  have KL := hidrg_ (iBlind K hK)
  have cw := walk_nil w1 K
  clear b0 k0
  go_enter Tryd.func7, Tryd.ntmps7
  go_wp2_with (first
    | (refine wpList_load_row rfl 23 (.tmp 5) rfl gk rfl 23 (rowOf K) (0, 0) _ K1.out Tryd.underlying23 rfl KL.out ?_)
    | (go_at_call 18; ((with_reducible refine cw.mono ?_); clear cw; rintro e w2 ⟨rfl, hb⟩; have B2 := hidrg_ (B1.out.trans (hb.mono B1.out.size)); clear hb)))
  go_ret2
  exact ⟨rfl, B2.out⟩
def okR (z1 z2 : Int) : Prop := 1 ≤ z1 ∧ z1 ≤ 8 ∧ 1 ≤ z2 ∧ z2 ≤ 64
/-- What New tells, whatever it is asked for. -/
def NewB (w : World) (z1 z2 : Int) (e : Ending) (w' : World) : Prop := ∃ (P : Option Addr) (er : Int), e = .returned (.tuple #[.pointer P, .int .i64 er]) ∧ Below w.heap.size w w' ∧ ((¬ okR z1 z2 ∧ P = none ∧ er = 1) ∨ (okR z1 z2 ∧ er = 0 ∧ ∃ g, P = some ⟨g, 0, none⟩ ∧ RingIs w' g (ringL plcS z1.toNat z2.toNat)))
theorem new_both (w : World) (z1 z2 : Int) (ht : Tab w) (hg1 : 0 < w.heap.size) : Calls Tryd.prog 4 #[.int .i64 z1, .int .i64 z2] w (NewB w z1 z2) := by
  by_cases h : okR z1 z2
  · obtain ⟨h1, h2, h3, h4⟩ := h
    obtain ⟨n, rfl⟩ : ∃ n : Nat, z1 = (n : Int) := ⟨z1.toNat, by omega⟩
    obtain ⟨k, rfl⟩ : ∃ k : Nat, z2 = (k : Int) := ⟨z2.toNat, by omega⟩
    refine (new_any w n k (by omega) (by omega) (by omega) (by omega) ht hg1).mono ?_
    rintro e w' ⟨g, rfl, hri, hb⟩
    exact ⟨_, _, rfl, hb, .inr ⟨⟨h1, h2, h3, h4⟩, rfl, g, rfl, by rw [Int.toNat_natCast, Int.toNat_natCast]; exact hri⟩⟩
  · refine (new_no w z1 z2 (by unfold okR at h; omega)).mono ?_
    rintro e w' ⟨rfl, rfl⟩
    exact ⟨_, _, rfl, Below.refl _ _, .inl ⟨h, rfl, rfl⟩⟩
end Go.Proofs.YtegfnlnbhhmkjaaDoor
