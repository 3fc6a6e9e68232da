/-
  The reference's Make, by values: a step of its first loop, and what its end tells.
-/
import Derived.Test.YtjflmfmncepeeaaJg
namespace Go.Proofs.Ytjflmfmncepeeaa
set_option linter.unusedVariables false
set_option linter.unusedSimpArgs false

theorem bump_up {u : List Int} {d : DotV} (h : Up16 u) (hd : isD d = true) : Up16 (u.set (d.c - 1).toNat d.n) := by
  obtain ⟨hl, hb⟩ := h
  obtain ⟨h1, h2, h3⟩ := isD_iff.1 hd
  refine ⟨by rw [List.length_set]; exact hl, fun k => ?_⟩
  rw [getD_set_ _ _ _ _ (by omega)]
  split
  · omega
  · exact hb k
theorem bump_in {u : List Int} {d : DotV} {more : List DotV} (h : Up16 u) (hd : isD d = true) (hm : d ∈ more) (hn : d.n = u.getD (d.c - 1).toNat 0 + 1) (x : DotV) (hx : isD x = true) : inS (u.set (d.c - 1).toNat d.n) more x ↔ inS u more x := by
  obtain ⟨hl, hb⟩ := h
  obtain ⟨h1, h2⟩ := isD_iff.1 hd
  obtain ⟨x1, x2⟩ := isD_iff.1 hx
  unfold inS
  rw [getD_set_ _ _ _ _ (by omega)]
  split
  · rename_i he
    have hc : d.c = x.c := by omega
    constructor
    · rintro (g | g)
      · rcases Int.lt_or_le (u.getD (x.c - 1).toNat 0) x.n with g1 | g1
        · right
          have : x = d := by
            obtain ⟨a, b⟩ := x
            obtain ⟨a', b'⟩ := d
            simp only at *
            subst hc
            congr 1
            omega
          rw [this]; exact hm
        · exact .inl g1
      · exact .inr g
    · rintro (g | g)
      · left
        rw [← hc] at g
        omega
      · exact .inr g
  · exact Iff.rfl
/-- What Make's end tells: all that isn't below, sorted, and nothing just above what is full. -/
theorem make_end {upto u : List Int} {more M : List DotV} (h : Up16 u) (hd : ∀ d ∈ more, isD d = true) (hs : ∀ d, isD d = true → (inS u more d ↔ inS upto more d)) (hne : ∀ d ∈ more, d.n ≠ u.getD (d.c - 1).toNat 0 + 1) (hM : ∀ x, x ∈ M ↔ x ∈ more ∧ ¬ x.n ≤ u.getD (x.c - 1).toNat 0) (hp : M.Pairwise Ltd) : OfX upto more (u, M) := by
  refine ⟨⟨h, fun d hdm => hd d ((hM d).1 hdm).1, fun d hdm => ?_, hp⟩, fun d hdd => ?_⟩
  · obtain ⟨g1, g2⟩ := (hM d).1 hdm
    have := hne d g1
    simp only at *
    omega
  · rw [← hs d hdd]
    unfold inS
    simp only
    constructor
    · rintro (g | g)
      · exact .inl g
      · exact .inr ((hM d).1 g).1
    · rintro (g | g)
      · exact .inl g
      · rcases Int.lt_or_le (u.getD (d.c - 1).toNat 0) d.n with g1 | g1
        · exact .inr ((hM d).2 ⟨g, by omega⟩)
        · exact .inl g1
theorem make_res {upto u : List Int} {more M : List DotV} (h : OfX upto more (u, M)) : ResV upto more (if 32 < M.length then List.replicate 16 0 else u) (if 32 < M.length then [] else M) (if 32 < M.length then 11 else 0) := by
  refine ⟨(u, M), h, ?_⟩
  split
  · exact .inl ⟨by assumption, rfl, rfl, rfl⟩
  · exact .inr ⟨by simp only; omega, rfl, rfl, rfl⟩
/-- A dot put in at a place: the row, its dots, its order. -/
def putD (l : List DotV) (d : DotV) (k : Nat) : List DotV := l.take k ++ d :: l.drop k
theorem putD_len (l : List DotV) (d : DotV) (k : Nat) (hk : k ≤ l.length) : (putD l d k).length = l.length + 1 := by
  unfold putD; rw [List.length_append, List.length_cons, List.length_take, List.length_drop]; omega
theorem putD_end (l : List DotV) (d : DotV) : putD l d l.length = l ++ [d] := by unfold putD; simp
theorem putD_mem (l : List DotV) (d : DotV) (k : Nat) (x : DotV) : x ∈ putD l d k ↔ x = d ∨ x ∈ l := by
  unfold putD
  rw [List.mem_append, List.mem_cons]
  conv => rhs; rhs; rw [← List.take_append_drop k l, List.mem_append]
  constructor
  · rintro (h | h | h)
    · exact .inr (.inl h)
    · exact .inl h
    · exact .inr (.inr h)
  · rintro (h | h | h)
    · exact .inr (.inl h)
    · exact .inl h
    · exact .inr (.inr h)
theorem ltd_or {a b : DotV} (h : a ≠ b) (hn : ¬ Ltd b a) : Ltd a b := by
  obtain ⟨a1, a2⟩ := a
  obtain ⟨b1, b2⟩ := b
  unfold Ltd at *
  simp only at *
  rcases Int.lt_trichotomy a1 b1 with g | g | g
  · exact .inl g
  · subst g
    rcases Int.lt_trichotomy a2 b2 with g | g | g
    · exact .inr ⟨rfl, g⟩
    · subst g; exact absurd rfl h
    · exact absurd (.inr ⟨rfl, g⟩) hn
  · exact absurd (.inl g) hn
theorem putD_sorted {l : List DotV} {d : DotV} {k : Nat} (hk : k ≤ l.length) (hp : l.Pairwise Ltd) (hn : d ∉ l) (hb : ∀ x ∈ l.drop k, Ltd d x) (he : k = 0 ∨ ¬ Ltd d (l.getD (k - 1) ⟨0, 0⟩)) : (putD l d k).Pairwise Ltd := by
  unfold putD
  rw [List.pairwise_append]
  refine ⟨hp.sublist (List.take_sublist _ _), List.pairwise_cons.2 ⟨hb, hp.sublist (List.drop_sublist _ _)⟩, fun a ha b hbm => ?_⟩
  have had : Ltd a d := by
    rcases he with rfl | he
    · simp at ha
    · obtain ⟨i, hi, e⟩ := List.mem_iff_getElem.1 ha
      rw [List.length_take] at hi
      rw [List.getElem_take] at e
      have hk0 : k - 1 < l.length := by omega
      simp only [List.getD, List.getElem?_eq_getElem hk0, Option.getD_some] at he
      have hl : Ltd (l[k - 1]) d := ltd_or (fun e => hn (by rw [← e]; exact List.getElem_mem hk0)) he
      rcases Nat.lt_or_ge i (k - 1) with g | g
      · rw [← e]
        exact (List.pairwise_iff_getElem.1 hp i (k - 1) (by omega) hk0 g).trans hl
      · have : i = k - 1 := by omega
        subst this
        rw [← e]; exact hl
  rcases List.mem_cons.1 hbm with e | e
  · rw [e]; exact had
  · exact had.trans (hb b e)
/-- One place to the front. -/
theorem putD_step {l : List DotV} {d : DotV} {k : Nat} (hk : 0 < k) (hl : k ≤ l.length) : ((putD l d k).set k ((putD l d k).getD (k - 1) ⟨0, 0⟩)).set (k - 1) d = putD l d (k - 1) := by
  obtain ⟨j, rfl⟩ : ∃ j, k = j + 1 := ⟨k - 1, by omega⟩
  rw [Nat.add_sub_cancel]
  have hj : j < l.length := by omega
  have hL := putD_len l d (j + 1) hl
  have hget : ∀ k i, k ≤ l.length → (putD l d k)[i]? = if i < k then l[i]? else if i = k then some d else l[i - 1]? := fun k i hk => by
    unfold putD
    rw [List.getElem?_append, List.length_take, Nat.min_eq_left hk]
    split
    · rw [List.getElem?_take_of_lt (by assumption)]
    · split
      · rename_i h; subst h; simp
      · rw [List.getElem?_cons, if_neg (by omega), List.getElem?_drop]
        congr 1; omega
  apply List.ext_getElem?
  intro i
  rw [List.getElem?_set, List.getElem?_set, hget (j + 1) i hl, hget j i (by omega)]
  have hgd : (putD l d (j + 1)).getD j ⟨0, 0⟩ = l[j] := by
    rw [List.getD_eq_getElem?_getD, hget (j + 1) j hl, if_pos (by omega), List.getElem?_eq_getElem hj]; rfl
  rw [hgd, List.length_set, hL]
  by_cases h1 : j = i
  · subst h1
    rw [if_pos rfl, if_pos (by omega), if_neg (by omega), if_pos rfl]
  · rw [if_neg h1]
    by_cases h2 : j + 1 = i
    · subst h2
      rw [if_pos rfl, if_pos (by omega), if_neg (by omega), if_neg (by omega), Nat.add_sub_cancel, List.getElem?_eq_getElem hj]
    · rw [if_neg h2]
      by_cases h3 : i < j
      · rw [if_pos (by omega), if_pos h3]
      · rw [if_neg (by omega), if_neg (by omega), if_neg h3, if_neg (by omega)]
theorem drop_step {l : List DotV} {d : DotV} {k : Nat} (hk : 0 < k) (hl : k ≤ l.length) (hb : ∀ x ∈ l.drop k, Ltd d x) (hd : Ltd d (l.getD (k - 1) ⟨0, 0⟩)) : ∀ x ∈ l.drop (k - 1), Ltd d x := fun x hx => by
  have hk0 : k - 1 < l.length := by omega
  rw [List.drop_eq_getElem_cons hk0] at hx
  simp only [List.getD, List.getElem?_eq_getElem hk0, Option.getD_some] at hd
  rcases List.mem_cons.1 hx with e | e
  · rw [e]; exact hd
  · rw [show k - 1 + 1 = k by omega] at e
    exact hb x e
end Go.Proofs.Ytjflmfmncepeeaa
