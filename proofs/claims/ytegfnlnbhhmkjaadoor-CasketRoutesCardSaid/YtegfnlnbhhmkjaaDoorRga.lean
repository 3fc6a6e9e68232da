/-
  A ring as plain mathematics: its points, sorted; the order in which a key comes to replicas.
-/
import Derived.Test.YtegfnlnbhhmkjaaDoorSA
namespace Go.Proofs.YtegfnlnbhhmkjaaDoor
set_option maxRecDepth 100000
open Go.Sort
set_option linter.unusedVariables false
set_option linter.unusedSectionVars false
set_option linter.unusedSimpArgs false

/-- A point: its place, its replica. -/
structure PtV where
  p : Nat
  r : Nat
instance : Inhabited PtV := ⟨⟨0, 0⟩⟩
def PtV.cells (x : PtV) : List Value := [.int .u64 (x.p : Int), .int .i64 (x.r : Int)]
def ltP (x y : PtV) : Bool := decide (x.p < y.p)
def cmpU (a b : Nat) : Int := if a < b then -1 else if b < a then 1 else 0
theorem ltP_cmp (x y : PtV) : ltP x y = decide (cmpU x.p y.p < 0) := by
  unfold ltP cmpU
  split
  · simp [*]
  · split <;> simp [*]
theorem wkP : Wk ltP := ⟨fun x y h => by unfold ltP at *; simp at *; omega, fun x y z h1 h2 => by unfold ltP at *; simp at *; omega⟩
/-- The points as they are made: of each replica, number by number. plc: where a point stands. -/
def ptsR (plc : Nat → Nat → Nat) (k r : Nat) : List PtV := (List.range k).map fun p => ⟨plc r p, r⟩
def ptsL (plc : Nat → Nat → Nat) (n k : Nat) : List PtV := (List.range n).flatMap fun r => ptsR plc k r
theorem ptsR_len (plc : Nat → Nat → Nat) (k r : Nat) : (ptsR plc k r).length = k := by simp [ptsR]
theorem ptsL_len (plc : Nat → Nat → Nat) (k : Nat) : ∀ n, (ptsL plc n k).length = n * k
  | 0 => by simp [ptsL]
  | n + 1 => by
    have h := ptsL_len plc k n
    unfold ptsL at h ⊢
    rw [List.range_succ, List.flatMap_append, List.length_append, h]
    simp [ptsR, Nat.succ_mul]
theorem ptsL_succ (plc : Nat → Nat → Nat) (n k : Nat) : ptsL plc (n + 1) k = ptsL plc n k ++ ptsR plc k n := by
  unfold ptsL
  rw [List.range_succ, List.flatMap_append]
  simp
theorem ptsR_succ (plc : Nat → Nat → Nat) (k r : Nat) : ptsR plc (k + 1) r = ptsR plc k r ++ [⟨plc r k, r⟩] := by
  unfold ptsR
  rw [List.range_succ, List.map_append]
  rfl
theorem mem_ptsL {plc : Nat → Nat → Nat} {n k : Nat} {x : PtV} (h : x ∈ ptsL plc n k) : x.r < n ∧ ∃ p, p < k ∧ x.p = plc x.r p := by
  unfold ptsL ptsR at h
  obtain ⟨r, hr, hx⟩ := List.mem_flatMap.1 h
  obtain ⟨p, hp, rfl⟩ := List.mem_map.1 hx
  exact ⟨List.mem_range.1 hr, p, List.mem_range.1 hp, rfl⟩
theorem ptsL_has (plc : Nat → Nat → Nat) {n k r p : Nat} (hr : r < n) (hp : p < k) : (⟨plc r p, r⟩ : PtV) ∈ ptsL plc n k := by
  unfold ptsL ptsR
  exact List.mem_flatMap.2 ⟨r, List.mem_range.2 hr, List.mem_map.2 ⟨p, List.mem_range.2 hp, rfl⟩⟩
def ringL (plc : Nat → Nat → Nat) (n k : Nat) : List PtV := ssort ltP (ptsL plc n k)
theorem ringL_len (plc : Nat → Nat → Nat) (n k : Nat) : (ringL plc n k).length = n * k := by unfold ringL; rw [ssort_len, ptsL_len]
theorem mem_ringL {plc : Nat → Nat → Nat} {n k : Nat} {x : PtV} : x ∈ ringL plc n k ↔ x ∈ ptsL plc n k := mem_ssort _
theorem ringL_srt (plc : Nat → Nat → Nat) (n k : Nat) : Srt ltP (ringL plc n k) := ssort_srt wkP _
/-- Each one when it comes first. -/
def ddf (o : List Nat) : List Nat → List Nat
  | [] => o
  | x :: l => ddf (if x ∈ o then o else o ++ [x]) l
theorem ddf_snoc : ∀ (l : List Nat) (o : List Nat) (x : Nat), ddf o (l ++ [x]) = if x ∈ ddf o l then ddf o l else ddf o l ++ [x]
  | [], o, x => rfl
  | y :: l, o, x => by
    rw [List.cons_append]
    unfold ddf
    rw [ddf_snoc l _ x]
theorem mem_ddf {z : Nat} : ∀ (l o : List Nat), z ∈ ddf o l ↔ z ∈ o ∨ z ∈ l
  | [], o => by simp [ddf]
  | y :: l, o => by
    unfold ddf
    rw [mem_ddf l]
    split <;> simp [List.mem_append] <;> grind
theorem ddf_nodup : ∀ (l o : List Nat), o.Nodup → (ddf o l).Nodup
  | [], o, h => h
  | y :: l, o, h => by
    unfold ddf
    refine ddf_nodup l _ ?_
    split
    · exact h
    · rename_i hy
      exact List.nodup_append.2 ⟨h, by simp, fun a ha b hb => by rw [List.mem_singleton.1 hb]; exact fun e => hy (e ▸ ha)⟩
theorem ddf_cons (o : List Nat) (x : Nat) (l : List Nat) : ddf o (x :: l) = ddf (if x ∈ o then o else o ++ [x]) l := rfl
theorem ddf_filter (q : Nat → Bool) : ∀ (l o : List Nat), (ddf o l).filter q = ddf (o.filter q) (l.filter q)
  | [], o => rfl
  | y :: l, o => by
    rw [ddf_cons, ddf_filter q l]
    by_cases hq : q y = true
    · rw [List.filter_cons_of_pos hq, ddf_cons]
      by_cases hy : y ∈ o
      · rw [if_pos hy, if_pos (List.mem_filter.2 ⟨hy, hq⟩)]
      · rw [if_neg hy, if_neg (fun h => hy (List.mem_filter.1 h).1), List.filter_append]
        simp [hq]
    · rw [List.filter_cons_of_neg hq]
      by_cases hy : y ∈ o
      · rw [if_pos hy]
      · rw [if_neg hy, List.filter_append]
        simp [hq]
/-- Going round from a place on. -/
def rotP (pl : Nat) (L : List PtV) : List PtV := L.filter (fun x => decide (pl ≤ x.p)) ++ L.filter (fun x => decide (x.p < pl))
/-- The order in which a key at pl comes to replicas. -/
def walkV (pl : Nat) (L : List PtV) : List Nat := ddf [] ((rotP pl L).map (·.r))
theorem mem_walkV {pl : Nat} {L : List PtV} {z : Nat} : z ∈ walkV pl L ↔ ∃ x ∈ L, x.r = z := by
  unfold walkV rotP
  rw [mem_ddf]
  simp only [List.not_mem_nil, false_or, List.mem_map, List.mem_append, List.mem_filter, decide_eq_true_eq]
  constructor
  · rintro ⟨x, h, rfl⟩
    rcases h with ⟨h, _⟩ | ⟨h, _⟩ <;> exact ⟨x, h, rfl⟩
  · rintro ⟨x, h, rfl⟩
    exact ⟨x, (Nat.lt_or_ge x.p pl).elim (fun e => .inr ⟨h, e⟩) (fun e => .inl ⟨h, e⟩), rfl⟩
theorem walkV_nodup (pl : Nat) (L : List PtV) : (walkV pl L).Nodup := ddf_nodup _ _ List.nodup_nil
/-- Where the search ends: those ahead of it stand below the place, all others don't. -/
theorem rotP_at {pl f : Nat} {L : List PtV} (hf : f ≤ L.length) (h1 : ∀ j x, j < f → L[j]? = some x → x.p < pl) (h2 : ∀ j x, f ≤ j → L[j]? = some x → pl ≤ x.p) : L.drop f ++ L.take f = rotP pl L := by
  have e := List.take_append_drop f L
  unfold rotP
  have a1 : ∀ x ∈ L.take f, x.p < pl := fun x hx => by
    obtain ⟨j, hj, rfl⟩ := List.mem_iff_getElem.1 hx
    rw [List.length_take] at hj
    exact h1 j _ (by omega) (by rw [List.getElem_take, List.getElem?_eq_getElem])
  have a2 : ∀ x ∈ L.drop f, pl ≤ x.p := fun x hx => by
    obtain ⟨j, hj, rfl⟩ := List.mem_iff_getElem.1 hx
    rw [List.length_drop] at hj
    exact h2 (f + j) _ (by omega) (by rw [List.getElem_drop, List.getElem?_eq_getElem])
  conv => rhs; rw [← e]
  rw [List.filter_append, List.filter_append]
  rw [List.filter_eq_nil_iff.2 (fun x hx => by have := a1 x hx; simp; omega), List.filter_eq_self.2 (fun x hx => by have := a2 x hx; simp; omega), List.filter_eq_self.2 (fun x hx => by have := a1 x hx; simp; omega), List.filter_eq_nil_iff.2 (fun x hx => by have := a2 x hx; simp; omega)]
  simp
theorem rot_get {L : List PtV} {f i : Nat} (hf : f ≤ L.length) (hi : i < L.length) : (L.drop f ++ L.take f)[i]? = L[(f + i) % L.length]? := by
  by_cases h : f + i < L.length
  · rw [Nat.mod_eq_of_lt h, List.getElem?_append_left (by rw [List.length_drop]; omega), List.getElem?_drop]
  · have e : (f + i) % L.length = f + i - L.length := by
      rw [Nat.mod_eq_sub_mod (by omega), Nat.mod_eq_of_lt (by omega)]
    rw [e, List.getElem?_append_right (by rw [List.length_drop]; omega), List.length_drop, List.getElem?_take, if_pos (by omega)]
    congr 1
    omega
/-- Of a ring whose replicas have a point at least: all of them, each once. -/
theorem walk_len {plc : Nat → Nat → Nat} {n k : Nat} (pl : Nat) (hk : 1 ≤ k) : (walkV pl (ringL plc n k)).length = n := by
  have h1 := walkV_nodup pl (ringL plc n k)
  have h2 : ∀ z, z ∈ walkV pl (ringL plc n k) ↔ z ∈ List.range n := fun z => by
    rw [mem_walkV, List.mem_range]
    constructor
    · rintro ⟨x, hx, rfl⟩
      exact (mem_ptsL (mem_ringL.1 hx)).1
    · intro hz
      exact ⟨⟨plc z 0, z⟩, mem_ringL.2 (ptsL_has plc hz hk), rfl⟩
  have h3 := (List.perm_ext_iff_of_nodup h1 List.nodup_range).2 h2
  rw [h3.length_eq, List.length_range]
theorem walk_lt {plc : Nat → Nat → Nat} {n k pl z : Nat} (h : z ∈ walkV pl (ringL plc n k)) : z < n := by
  obtain ⟨x, hx, rfl⟩ := mem_walkV.1 h
  exact (mem_ptsL (mem_ringL.1 hx)).1
/-! Without the last replica. -/
theorem mrg_filter (q : PtV → Bool) (x : PtV) : ∀ (S : List PtV), Srt ltP S → (mrg ltP [x] S).filter q = if q x = true then mrg ltP [x] (S.filter q) else S.filter q
  | [], _ => by
    rw [mrg_nil']
    by_cases h : q x = true <;> simp [h, mrg_nil']
  | y :: S, hS => by
    have hS' := List.pairwise_cons.1 hS
    cases h : ltP y x with
    | true =>
      rw [mrg_lt h]
      have ih := mrg_filter q x S hS'.2
      by_cases hy : q y = true
      · rw [List.filter_cons_of_pos hy, ih, List.filter_cons_of_pos hy]
        split
        · rw [mrg_lt h]
        · rfl
      · rw [List.filter_cons_of_neg hy, ih, List.filter_cons_of_neg hy]
    | false =>
      rw [mrg_ge h, mrg_nil]
      by_cases hx : q x = true
      · rw [List.filter_cons_of_pos hx, if_pos hx]
        cases hf : (y :: S).filter q with
        | nil => rw [mrg_nil']
        | cons z T =>
          have hz : z ∈ (y :: S).filter q := by rw [hf]; exact List.mem_cons_self ..
          have hz2 := (List.mem_filter.1 hz).1
          have : ltP z x = false := by
            rcases List.mem_cons.1 hz2 with e | hm
            · rw [e]; exact h
            · exact wkP.tran x y z h (hS'.1 z hm)
          rw [mrg_ge this, mrg_nil]
      · rw [List.filter_cons_of_neg hx, if_neg hx]
theorem ssort_filter (q : PtV → Bool) : ∀ (L : List PtV), (ssort ltP L).filter q = ssort ltP (L.filter q)
  | [] => rfl
  | x :: L => by
    rw [ssort, mrg_filter q x _ (ssort_srt wkP L), ssort_filter q L]
    by_cases hx : q x = true
    · rw [if_pos hx, List.filter_cons_of_pos hx, ssort]
    · rw [if_neg hx, List.filter_cons_of_neg hx]
theorem pts_less (plc : Nat → Nat → Nat) (n k : Nat) : (ptsL plc (n + 1) k).filter (fun x => decide (x.r ≠ n)) = ptsL plc n k := by
  rw [ptsL_succ, List.filter_append, List.filter_eq_self.2 (fun x hx => by have := (mem_ptsL hx).1; simp; omega), List.filter_eq_nil_iff.2 (fun x hx => by
    unfold ptsR at hx
    obtain ⟨p, _, rfl⟩ := List.mem_map.1 hx
    simp), List.append_nil]
theorem map_filter_r (q : Nat → Bool) : ∀ (L : List PtV), (L.map (·.r)).filter q = (L.filter fun x => q x.r).map (·.r)
  | [] => rfl
  | x :: L => by
    rw [List.map_cons]
    by_cases h : q x.r = true
    · rw [List.filter_cons_of_pos h, List.filter_cons_of_pos (by exact h), List.map_cons, map_filter_r q L]
    · rw [List.filter_cons_of_neg h, List.filter_cons_of_neg (by exact h), map_filter_r q L]
theorem walk_less (plc : Nat → Nat → Nat) (n k pl : Nat) : (walkV pl (ringL plc (n + 1) k)).filter (fun z => decide (z ≠ n)) = walkV pl (ringL plc n k) := by
  unfold walkV
  rw [ddf_filter, map_filter_r]
  congr 2
  unfold rotP
  rw [List.filter_append, List.filter_filter, List.filter_filter]
  unfold ringL
  rw [← pts_less plc n k, ← ssort_filter, List.filter_filter, List.filter_filter]
  congr 1 <;> (congr 1; funext x; rw [Bool.and_comm])
end Go.Proofs.YtegfnlnbhhmkjaaDoor
