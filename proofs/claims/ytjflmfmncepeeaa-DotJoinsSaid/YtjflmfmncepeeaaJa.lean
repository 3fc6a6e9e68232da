/-
  Contexts by values: the one form that a set of dots has, and that contextOf comes to it.
-/
import Derived.Test.YtjflmfmncepeeaaIr
import Derived.Test.YtjflmfmncepeeaaIn
namespace Go.Proofs.Ytjflmfmncepeeaa
set_option linter.unusedVariables false
set_option linter.unusedSimpArgs false

def Ltd (x y : DotV) : Prop := x.c < y.c ∨ (x.c = y.c ∧ x.n < y.n)
instance (x y : DotV) : Decidable (Ltd x y) := by unfold Ltd; infer_instance
theorem Ltd.trans {x y z : DotV} (h : Ltd x y) (g : Ltd y z) : Ltd x z := by unfold Ltd at *; omega
theorem Ltd.irrefl {x : DotV} : ¬ Ltd x x := by unfold Ltd; omega
theorem Ltd.of_cmp {x y : DotV} (h : cmpD x y < 0) : Ltd x y := by
  have := ltD x y
  unfold ltOf at this
  rw [decide_eq_true h] at this
  exact of_decide_eq_true this.symm
theorem Ltd.cmp {x y : DotV} (h : Ltd x y) : cmpD x y < 0 := by
  have := ltD x y
  unfold ltOf at this
  rw [show decide (x.c < y.c ∨ (x.c = y.c ∧ x.n < y.n)) = true from decide_eq_true h] at this
  exact of_decide_eq_true this
/-- A dot is in a set. -/
def inS (up : List Int) (ms : List DotV) (d : DotV) : Prop := d.n ≤ up.getD (d.c - 1).toNat 0 ∨ d ∈ ms
/-- A context's form. -/
structure Can (up : List Int) (ms : List DotV) : Prop where
  up16 : Up16 up
  dots : ∀ d ∈ ms, isD d = true
  far : ∀ d ∈ ms, up.getD (d.c - 1).toNat 0 + 2 ≤ d.n
  sorted : ms.Pairwise Ltd
theorem isD_iff {d : DotV} : isD d = true ↔ ((1 ≤ d.c ∧ d.c ≤ 16) ∧ 1 ≤ d.n ∧ d.n ≤ 1099511627776) := by unfold isD; exact decide_eq_true_iff
theorem getD_mem {ms : List DotV} {k : Nat} (h : k < ms.length) : ms.getD k ⟨0, 0⟩ ∈ ms := by
  simp only [List.getD, List.getElem?_eq_getElem h, Option.getD_some]
  exact List.getElem_mem h
theorem mem_getD {ms : List DotV} {d : DotV} (h : d ∈ ms) : ∃ k, k < ms.length ∧ ms.getD k ⟨0, 0⟩ = d := by
  obtain ⟨k, hk, e⟩ := List.mem_iff_getElem.1 h
  exact ⟨k, hk, by simp only [List.getD, List.getElem?_eq_getElem hk, Option.getD_some, e]⟩
/-- Sorted lists that have the same dots are the same. -/
theorem sorted_ext : ∀ {a b : List DotV}, a.Pairwise Ltd → b.Pairwise Ltd → (∀ d, d ∈ a ↔ d ∈ b) → a = b
  | [], [], _, _, _ => rfl
  | [], y :: b, _, _, h => absurd ((h y).2 (List.mem_cons_self ..)) (by simp)
  | x :: a, [], _, _, h => absurd ((h x).1 (List.mem_cons_self ..)) (by simp)
  | x :: a, y :: b, ha, hb, h => by
    rw [List.pairwise_cons] at ha hb
    obtain ⟨hx, ha⟩ := ha
    obtain ⟨hy, hb⟩ := hb
    have e : x = y := by
      rcases List.mem_cons.1 ((h x).1 (List.mem_cons_self ..)) with e | e
      · exact e
      · rcases List.mem_cons.1 ((h y).2 (List.mem_cons_self ..)) with e' | e'
        · exact e'.symm
        · exact absurd ((hy x e).trans (hx y e')) Ltd.irrefl
    subst e
    rw [sorted_ext ha hb fun d => ⟨fun hd => by
      rcases List.mem_cons.1 ((h d).1 (List.mem_cons_of_mem _ hd)) with e | e
      · subst e; exact absurd (hx d hd) Ltd.irrefl
      · exact e, fun hd => by
      rcases List.mem_cons.1 ((h d).2 (List.mem_cons_of_mem _ hd)) with e | e
      · subst e; exact absurd (hy d hd) Ltd.irrefl
      · exact e⟩]
theorem can_up_le {u u' : List Int} {m m' : List DotV} (h : Can u m) (h' : Can u' m') (he : ∀ d, isD d = true → inS u' m' d → inS u m d) (k : Nat) (hk : k < 16) : u'.getD k 0 ≤ u.getD k 0 := by
  rcases Int.lt_or_le (u.getD k 0) (u'.getD k 0) with hl | hl
  · have b := h.up16.2 k
    have b' := h'.up16.2 k
    have hd : isD ⟨(k : Int) + 1, u.getD k 0 + 1⟩ = true := isD_iff.2 ⟨by simp only; omega, by simp only; omega⟩
    have ek : ((k : Int) + 1 - 1).toNat = k := by omega
    rcases he _ hd (.inl (by simp only [ek]; omega)) with h1 | h1
    · simp only [ek] at h1; omega
    · have := h.far _ h1
      simp only [ek] at this; omega
  · exact hl
theorem can_unique {u u' : List Int} {m m' : List DotV} (h : Can u m) (h' : Can u' m') (he : ∀ d, isD d = true → (inS u m d ↔ inS u' m' d)) : u = u' ∧ m = m' := by
  have eu : u = u' := by
    refine List.ext_getElem (by rw [h.up16.1, h'.up16.1]) fun k h1 h2 => ?_
    have a := can_up_le h h' (fun d hd => (he d hd).2) k (by rw [← h.up16.1]; exact h1)
    have b := can_up_le h' h (fun d hd => (he d hd).1) k (by rw [← h.up16.1]; exact h1)
    simp only [List.getD, List.getElem?_eq_getElem h1, List.getElem?_eq_getElem h2, Option.getD_some] at a b
    omega
  subst eu
  refine ⟨rfl, sorted_ext h.sorted h'.sorted fun d => ⟨fun hd => ?_, fun hd => ?_⟩⟩
  · rcases (he d (h.dots d hd)).1 (.inr hd) with g | g
    · have := h.far d hd; omega
    · exact g
  · rcases (he d (h'.dots d hd)).2 (.inr hd) with g | g
    · have := h'.far d hd; omega
    · exact g
theorem pairwise_next {a : List DotV} (h : ∀ j, 0 < j → j < a.length → Ltd (a.getD (j - 1) ⟨0, 0⟩) (a.getD j ⟨0, 0⟩)) : a.Pairwise Ltd := by
  rw [List.pairwise_iff_getElem]
  have step : ∀ (k i : Nat), i + (k + 1) < a.length → Ltd (a.getD i ⟨0, 0⟩) (a.getD (i + (k + 1)) ⟨0, 0⟩) := by
    intro k
    induction k with
    | zero => intro i hi; exact h (i + 1) (by omega) hi
    | succ k ih => intro i hi; exact (ih i (by omega)).trans (h (i + (k + 1 + 1)) (by omega) hi)
  intro i j hi hj hij
  have := step (j - i - 1) i (by omega)
  rw [show i + (j - i - 1 + 1) = j by omega] at this
  simpa only [List.getD, List.getElem?_eq_getElem hi, List.getElem?_eq_getElem hj, Option.getD_some] using this
theorem chk_can {up : List Int} {ms : List DotV} (hu : up.length = 16) (h : chk up ms = 0) : Can up ms ∧ ms.length ≤ 32 := by
  unfold chk at h
  split at h
  · omega
  · rename_i h1
    split at h
    · omega
    · rename_i h2
      split at h
      · omega
      · rename_i h3
        have h1 := (allN_iff 16 _).1 (by simpa using h1)
        have h3 := (allN_iff _ _).1 (by simpa using h3)
        have ho : ∀ d ∈ ms, isD d = true ∧ up.getD (d.c - 1).toNat 0 + 2 ≤ d.n := fun d hd => by
          obtain ⟨k, hk, rfl⟩ := mem_getD hd
          have := h3 k hk
          unfold okAt at this
          simp only [Bool.and_eq_true, decide_eq_true_eq] at this
          exact ⟨this.1.1, this.2⟩
        refine ⟨⟨⟨hu, fun k => ?_⟩, fun d hd => (ho d hd).1, fun d hd => (ho d hd).2, pairwise_next fun j hj0 hj => ?_⟩, by omega⟩
        · rcases Nat.lt_or_ge k 16 with hk | hk
          · exact of_decide_eq_true (h1 k hk)
          · simp only [List.getD, List.getElem?_eq_none (show up.length ≤ k by omega), Option.getD_none]; omega
        · have := h3 j hj
          unfold okAt at this
          simp only [Bool.and_eq_true, Bool.or_eq_true, decide_eq_true_eq] at this
          rcases this.1.2 with h | h
          · omega
          · exact Ltd.of_cmp h
theorem can_chk {up : List Int} {ms : List DotV} (h : Can up ms) (hl : ms.length ≤ 32) : chk up ms = 0 := by
  unfold chk
  rw [if_neg, if_neg (by omega), if_neg]
  · rw [Bool.not_eq_false, allN_iff]
    intro j hj
    unfold okAt
    simp only [Bool.and_eq_true, Bool.or_eq_true, decide_eq_true_eq]
    refine ⟨⟨h.dots _ (getD_mem hj), ?_⟩, h.far _ (getD_mem hj)⟩
    rcases Nat.eq_zero_or_pos j with h0 | h0
    · exact .inl h0
    · right
      have := (List.pairwise_iff_getElem.1 h.sorted) (j - 1) j (by omega) hj (by omega)
      refine Ltd.cmp ?_
      simpa only [List.getD, List.getElem?_eq_getElem hj, List.getElem?_eq_getElem (show j - 1 < ms.length by omega), Option.getD_some] using this
  · rw [Bool.not_eq_false, allN_iff]
    intro j hj
    exact decide_eq_true (h.up16.2 j)
theorem hasR_iff {up : List Int} {ms : List DotV} {d : DotV} (h : chk up ms = 0) (hd : isD d = true) : hasR up ms d = true ↔ inS up ms d := by
  unfold hasR inS
  rw [if_neg (by rintro (h1 | h1); exact h1 h; rw [hd] at h1; cases h1)]
  simp
theorem hasR_no {up : List Int} {ms : List DotV} {d : DotV} (hd : isD d = false) : hasR up ms d = false := by
  unfold hasR
  rw [if_pos (.inr hd)]
theorem ddN_all {ms : List DotV} : ∀ k j, j < k → ms.getD j ⟨0, 0⟩ ∈ ddN ms k
  | 0, j, h => absurd h (by omega)
  | k + 1, j, h => by
    rw [ddN]
    rcases Nat.lt_or_ge j k with h1 | h1
    · have := ddN_all (ms := ms) k j h1
      split
      · exact this
      · exact List.mem_append_left _ this
    · obtain rfl : j = k := by omega
      split
      · rename_i h2
        rw [h2.2]
        exact ddN_all (ms := ms) j (j - 1) (by omega)
      · exact List.mem_append_right _ (List.mem_singleton.2 rfl)
theorem ddN_last {ms : List DotV} : ∀ k, 0 < k → ∃ l, ddN ms k = l ++ [ms.getD (k - 1) ⟨0, 0⟩]
  | 0, h => absurd h (by omega)
  | k + 1, _ => by
    rw [ddN]
    split
    · rename_i h2
      obtain ⟨l, hl⟩ := ddN_last (ms := ms) k h2.1
      exact ⟨l, by rw [hl, Nat.add_sub_cancel, h2.2]⟩
    · exact ⟨_, rfl⟩
theorem not_lt_both {x y : DotV} (h : ltOf cmpD y x = false) (hne : x ≠ y) : Ltd x y := by
  rw [ltD] at h
  have h := of_decide_eq_false h
  unfold Ltd
  obtain ⟨a, b⟩ := x
  obtain ⟨c, d⟩ := y
  simp only [ne_eq, DotV.mk.injEq] at *
  omega
theorem ddN_sorted {ms : List DotV} (n : Nat) (hs : ∀ i j, i < j → j < n → ltOf cmpD (ms.getD j ⟨0, 0⟩) (ms.getD i ⟨0, 0⟩) = false) : ∀ k, k ≤ n → (ddN ms k).Pairwise Ltd
  | 0, _ => List.Pairwise.nil
  | k + 1, hk => by
    have ih := ddN_sorted n hs k (by omega)
    rw [ddN]
    split
    · exact ih
    · rename_i h2
      rw [List.pairwise_append]
      refine ⟨ih, List.pairwise_singleton _ _, fun x hx y hy => ?_⟩
      rw [List.mem_singleton] at hy
      subst hy
      rcases Nat.eq_zero_or_pos k with h0 | h0
      · subst h0; cases hx
      · obtain ⟨l, hl⟩ := ddN_last (ms := ms) k h0
        have hlast : Ltd (ms.getD (k - 1) ⟨0, 0⟩) (ms.getD k ⟨0, 0⟩) := not_lt_both (hs (k - 1) k (by omega) (by omega)) fun e => h2 ⟨h0, e.symm⟩
        rw [hl] at hx ih
        rw [List.pairwise_append] at ih
        rcases List.mem_append.1 hx with g | g
        · exact (ih.2.2 x g _ (List.mem_singleton.2 rfl)).trans hlast
        · rw [List.mem_singleton] at g; subst g; exact hlast
/-- What contextOf comes to: of some numbers and dots, in one form, the same dots. -/
def OfX (up : List Int) (ms : List DotV) (st : List Int × List DotV) : Prop := Can st.1 st.2 ∧ ∀ d, isD d = true → (inS st.1 st.2 d ↔ inS up ms d)
theorem OfX.one {up up' : List Int} {ms ms' : List DotV} {st st' : List Int × List DotV} (h : OfX up ms st) (h' : OfX up' ms' st') (he : ∀ d, isD d = true → (inS up ms d ↔ inS up' ms' d)) : st = st' := by
  obtain ⟨e1, e2⟩ := can_unique h.1 h'.1 fun d hd => (h.2 d hd).trans ((he d hd).trans (h'.2 d hd).symm)
  exact Prod.ext e1 e2
theorem getD_set_ (u : List Int) (i k : Nat) (z : Int) (hi : i < u.length) : (u.set i z).getD k 0 = if i = k then z else u.getD k 0 := by
  simp only [List.getD_eq_getElem?_getD, List.getElem?_set]
  split
  · simp
  · rfl
theorem runX_of {up : List Int} {ms : List DotV} (hu : Up16 up) (hd : ∀ d ∈ ms, isD d = true) (hs : ms.Pairwise Ltd) : ∀ k, k ≤ ms.length →
    Can (runX up ms k).1 (runX up ms k).2 ∧ (∀ d ∈ (runX up ms k).2, ∃ j, j < k ∧ ms.getD j ⟨0, 0⟩ = d) ∧ ∀ d, isD d = true → (inS (runX up ms k).1 (runX up ms k).2 d ↔ inS up (ms.take k) d)
  | 0, _ => ⟨⟨hu, fun d h => (by cases h), fun d h => (by cases h), List.Pairwise.nil⟩, fun d h => (by cases h), fun d _ => by rw [List.take_zero]; rfl⟩
  | k + 1, hk => by
    obtain ⟨hc, hm, hi⟩ := runX_of hu hd hs k (by omega)
    have hdk := hd _ (getD_mem (ms := ms) (k := k) (by omega))
    have ht : ms.take (k + 1) = ms.take k ++ [ms.getD k ⟨0, 0⟩] := by
      rw [List.take_succ_eq_append_getElem (by omega)]
      simp [List.getD, show k < ms.length by omega]
    have hb : ∀ d ∈ (runX up ms k).2, Ltd d (ms.getD k ⟨0, 0⟩) := fun d h => by
      obtain ⟨j, hj, rfl⟩ := hm d h
      have := (List.pairwise_iff_getElem.1 hs) j k (by omega) (by omega) hj
      simpa only [List.getD, List.getElem?_eq_getElem (show j < ms.length by omega), List.getElem?_eq_getElem (show k < ms.length by omega), Option.getD_some] using this
    have hup := stpX_up hc.up16 hdk
    have hself : ∃ j, j < k + 1 ∧ ms.getD j ⟨0, 0⟩ = ms.getD k ⟨0, 0⟩ := ⟨k, by omega, rfl⟩
    rw [runX, ht]
    generalize ms.getD k ⟨0, 0⟩ = x at *
    generalize runX up ms k = st at *
    obtain ⟨u, m⟩ := st
    simp only at hc hm hi hb hup
    have hx := isD_iff.1 hdk
    have hxi : (x.c - 1).toNat < u.length := by rw [hc.up16.1]; omega
    have hin : ∀ d, inS up (ms.take k ++ [x]) d ↔ inS up (ms.take k) d ∨ d = x := fun d => by
      unfold inS
      rw [List.mem_append, List.mem_singleton, or_assoc]
    unfold stpX at hup ⊢
    simp only at hup ⊢
    split
    · rename_i h1
      refine ⟨hc, fun d h => ?_, fun d h => ?_⟩
      · obtain ⟨j, hj, e⟩ := hm d h
        exact ⟨j, by omega, e⟩
      · rw [hin, ← hi d h]
        refine ⟨.inl, fun g => g.elim id fun e => ?_⟩
        subst e
        exact .inl h1
    · rename_i h1
      rw [if_neg h1] at hup
      split
      · rename_i h2
        rw [if_pos h2] at hup
        have hno : ∀ d ∈ m, (d.c - 1).toNat ≠ (x.c - 1).toNat := fun d h e => by
          have h3 := hb d h
          have h4 := hc.far d h
          have h5 := isD_iff.1 (hc.dots d h)
          rw [e] at h4
          unfold Ltd at h3
          omega
        refine ⟨⟨hup, hc.dots, fun d h => ?_, hc.sorted⟩, fun d h => ?_, fun d h => ?_⟩
        · have := hc.far d h
          simp only [getD_set_ _ _ _ _ hxi, if_neg (hno d h).symm]
          exact this
        · obtain ⟨j, hj, e⟩ := hm d h
          exact ⟨j, by omega, e⟩
        · rw [hin, ← hi d h]
          unfold inS
          simp only [getD_set_ _ _ _ _ hxi]
          have h6 := isD_iff.1 h
          split
          · rename_i h7
            constructor
            · rintro (g | g)
              · rcases Int.lt_or_le (u.getD (d.c - 1).toNat 0) d.n with h8 | h8
                · right
                  obtain ⟨a, b⟩ := d
                  obtain ⟨e, f⟩ := x
                  simp only [DotV.mk.injEq] at *
                  rw [← h7] at h8
                  omega
                · exact .inl (.inl h8)
              · exact .inl (.inr g)
            · rintro ((g | g) | g)
              · left; rw [← h7] at g; omega
              · exact .inr g
              · subst g; left; omega
          · rename_i h7
            constructor
            · exact .inl
            · rintro (g | g)
              · exact g
              · subst g; exact absurd rfl h7
      · rename_i h2
        refine ⟨⟨hc.up16, fun d h => ?_, fun d h => ?_, ?_⟩, fun d h => ?_, fun d h => ?_⟩
        · rcases List.mem_append.1 h with g | g
          · exact hc.dots d g
          · rw [List.mem_singleton] at g; subst g; exact hdk
        · rcases List.mem_append.1 h with g | g
          · exact hc.far d g
          · rw [List.mem_singleton] at g; subst g; simp only; omega
        · rw [List.pairwise_append]
          exact ⟨hc.sorted, List.pairwise_singleton _ _, fun a ha b hb' => by rw [List.mem_singleton] at hb'; subst hb'; exact hb a ha⟩
        · rcases List.mem_append.1 h with g | g
          · obtain ⟨j, hj, e⟩ := hm d g
            exact ⟨j, by omega, e⟩
          · rw [List.mem_singleton] at g; subst g; exact hself
        · rw [hin, ← hi d h]
          unfold inS
          rw [List.mem_append, List.mem_singleton, or_assoc]
theorem ofX_of {up : List Int} {ms srt : List DotV} (hu : Up16 up) (hp : srt.Perm ms) (hd : ∀ d ∈ ms, isD d = true) (n : Nat) (hn : n = ms.length) (hs : ∀ i j, i < j → j < n → ltOf cmpD (srt.getD j ⟨0, 0⟩) (srt.getD i ⟨0, 0⟩) = false) :
    OfX up ms (runX up (ddN srt n) (ddN srt n).length) := by
  have hl := hp.length_eq
  have hm : ∀ d, d ∈ ddN srt n ↔ d ∈ ms := fun d => ⟨fun h => hp.mem_iff.1 (ddN_mem n (by omega) d h), fun h => by
    obtain ⟨k, hk, rfl⟩ := mem_getD (hp.mem_iff.2 h)
    exact ddN_all n k (by omega)⟩
  obtain ⟨h1, _, h3⟩ := runX_of (ms := ddN srt n) hu (fun d h => hd d ((hm d).1 h)) (ddN_sorted n hs n (Nat.le_refl _)) _ (Nat.le_refl _)
  refine ⟨h1, fun d h => (h3 d h).trans ?_⟩
  rw [List.take_of_length_le (Nat.le_refl _)]
  unfold inS
  rw [hm]
end Go.Proofs.Ytjflmfmncepeeaa
