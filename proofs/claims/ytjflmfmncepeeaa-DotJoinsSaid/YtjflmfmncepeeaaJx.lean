/-
  The reference's Make: what its first loop counts down; what its third keeps.
-/
import Derived.Test.YtjflmfmncepeeaaJw
import Derived.Test.YtjflmfmncepeeaaJv
import Derived.Test.YtjflmfmncepeeaaJn
import Derived.Test.YtjflmfmncepeeaaJb
import Derived.Test.YtjflmfmncepeeaaIq
import Derived.Test.YtjflmfmncepeeaaQt
import Derived.Test.YtjflmfmncepeeaaFj
namespace Go.Proofs.Ytjflmfmncepeeaa
open Go.ChangeShapes Go.WideShapes Go.ChangeAt Go.RowKit
set_option linter.unusedVariables false
set_option linter.unusedSimpArgs false

def mk40 (u : List Int) : Nat := (u.map fun x => (1099511627776 - x).toNat).sum
theorem mk_sum (f : Int → Nat) : ∀ (u : List Int) (i : Nat) (x : Int), i < u.length → f x < f (u.getD i 0) → ((u.set i x).map f).sum < (u.map f).sum
  | [], i, x, h, _ => absurd h (by simp)
  | a :: u, 0, x, _, h => by
    simp only [List.getD_cons_zero] at h
    simp only [List.set_cons_zero, List.map_cons, List.sum_cons]
    omega
  | a :: u, i + 1, x, h, hf => by
    have ih := mk_sum f u i x (by simpa using h) (by simpa using hf)
    simp only [List.set_cons_succ, List.map_cons, List.sum_cons]
    omega
theorem mk40_bump {u : List Int} (h : Up16 u) {d : DotV} (hd : isD d = true) (hn : d.n = u.getD (d.c - 1).toNat 0 + 1) : mk40 (u.set (d.c - 1).toNat d.n) < mk40 u := by
  obtain ⟨h1, h2⟩ := isD_iff.1 hd
  refine mk_sum _ u _ _ (by rw [h.1]; omega) ?_
  omega
def mw40 (W : World) (g : Nat) : Nat := mk40 ((List.range 16).map fun i => intOf ((W.cell? ⟨g, i, none⟩).getD undef))
theorem mw40_eq {W : World} {g n c : Nat} {t : TypeId} {u : List Int} {A : Option Addr} (h : Bk W g t (ctxRow u A n c)) (hu : u.length = 16) : mw40 W g = mk40 u := by
  unfold mw40
  congr 1
  apply List.ext_getElem
  · simp [hu]
  · intro i h1 h2
    have hi : i < 16 := by simpa using h1
    simp only [List.getElem_map, List.getElem_range]
    rw [h.cell i, ctxRow_up u A n c i hu hi]
    simp [intOf, List.getD, h2]
def flagN : Value → Nat | .bool true => 1 | _ => 0
/-- What a pass of the first loop has done so far. -/
def BmpR (ms : List DotV) (u0 u : List Int) (k : Nat) (b : Bool) : Prop :=
  (b = true → mk40 u < mk40 u0) ∧ (b = false → u = u0 ∧ ∀ j, j < k → (ms.getD j ⟨0, 0⟩).n ≠ u0.getD ((ms.getD j ⟨0, 0⟩).c - 1).toNat 0 + 1)
/-- The first loop keeps all that is in. -/
def KpU (up : List Int) (ms : List DotV) (u : List Int) : Prop := Up16 u ∧ ∀ d, isD d = true → (inS u ms d ↔ inS up ms d)
theorem KpU.start {up : List Int} {ms : List DotV} (h : Up16 up) : KpU up ms up := ⟨h, fun _ _ => Iff.rfl⟩
theorem KpU.bump {up u : List Int} {ms : List DotV} (h : KpU up ms u) {d : DotV} (hd : isD d = true) (hm : d ∈ ms) (hn : d.n = u.getD (d.c - 1).toNat 0 + 1) : KpU up ms (u.set (d.c - 1).toNat d.n) :=
  ⟨bump_up h.1 hd, fun x hx => (bump_in h.1 hd hm hn x hx).trans (h.2 x hx)⟩
theorem BmpR.bump {ms : List DotV} {u0 u : List Int} {k : Nat} {b : Bool} (h : BmpR ms u0 u k b) (hu : Up16 u) {d : DotV} (hd : isD d = true) (hn : d.n = u.getD (d.c - 1).toNat 0 + 1) : BmpR ms u0 (u.set (d.c - 1).toNat d.n) (k + 1) true := by
  refine ⟨fun _ => ?_, fun e => by cases e⟩
  have h1 := mk40_bump hu hd hn
  cases b with
  | true => have := h.1 rfl; omega
  | false => rw [(h.2 rfl).1] at h1 ⊢; exact h1
theorem BmpR.skip {ms : List DotV} {u0 u : List Int} {k : Nat} {b : Bool} (h : BmpR ms u0 u k b) (hn : (ms.getD k ⟨0, 0⟩).n ≠ u.getD ((ms.getD k ⟨0, 0⟩).c - 1).toNat 0 + 1) : BmpR ms u0 u (k + 1) b := by
  refine ⟨h.1, fun e => ?_⟩
  obtain ⟨h1, h2⟩ := h.2 e
  subst h1
  refine ⟨rfl, fun j hj => ?_⟩
  rcases Nat.lt_or_ge j k with g | g
  · exact h2 j g
  · obtain rfl : j = k := by omega
    exact hn
theorem putD_before (l : List DotV) (d : DotV) (i : Nat) (h : i < l.length) : (putD l d (i + 1)).getD i ⟨0, 0⟩ = l.getD i ⟨0, 0⟩ := by
  unfold putD
  rw [List.getD_eq_getElem?_getD, List.getD_eq_getElem?_getD, List.getElem?_append_left (by rw [List.length_take]; omega), List.getElem?_take_of_lt (by omega)]
/-- What the third loop keeps. -/
def MoreR (ms : List DotV) (u : List Int) (k : Nat) (M : List DotV) : Prop := M.Pairwise Ltd ∧ (∀ x, x ∈ M ↔ x ∈ ms.take k ∧ ¬ x.n ≤ u.getD (x.c - 1).toNat 0) ∧ M.length ≤ k
theorem MoreR.start (ms : List DotV) (u : List Int) : MoreR ms u 0 [] := ⟨List.Pairwise.nil, fun x => by simp, Nat.le_refl _⟩
theorem MoreR.skip {ms : List DotV} {u : List Int} {k : Nat} {M : List DotV} (h : MoreR ms u k M) (hk : k < ms.length) (hs : (ms.getD k ⟨0, 0⟩).n ≤ u.getD ((ms.getD k ⟨0, 0⟩).c - 1).toNat 0 ∨ ms.getD k ⟨0, 0⟩ ∈ M) : MoreR ms u (k + 1) M := by
  obtain ⟨h1, h2, h3⟩ := h
  refine ⟨h1, fun x => ?_, by omega⟩
  rw [take_snocD ms k hk, List.mem_append, List.mem_singleton, h2 x]
  constructor
  · rintro ⟨a, b⟩; exact ⟨.inl a, b⟩
  · rintro ⟨a | a, b⟩
    · exact ⟨a, b⟩
    · subst a
      rcases hs with g | g
      · exact absurd g b
      · exact (h2 _).1 g
theorem MoreR.put {ms : List DotV} {u : List Int} {k : Nat} {M : List DotV} (h : MoreR ms u k M) (hk : k < ms.length) (q : Nat) (hq : q ≤ M.length) (hs : ¬ (ms.getD k ⟨0, 0⟩).n ≤ u.getD ((ms.getD k ⟨0, 0⟩).c - 1).toNat 0) (hm : ms.getD k ⟨0, 0⟩ ∉ M) (hb : ∀ x ∈ M.drop q, Ltd (ms.getD k ⟨0, 0⟩) x) (he : q = 0 ∨ ¬ Ltd (ms.getD k ⟨0, 0⟩) (M.getD (q - 1) ⟨0, 0⟩)) : MoreR ms u (k + 1) (putD M (ms.getD k ⟨0, 0⟩) q) := by
  obtain ⟨h1, h2, h3⟩ := h
  refine ⟨putD_sorted hq h1 hm hb he, fun x => ?_, by rw [putD_len _ _ _ hq]; omega⟩
  rw [putD_mem, take_snocD ms k hk, List.mem_append, List.mem_singleton, h2 x]
  constructor
  · rintro (a | ⟨a, b⟩)
    · subst a; exact ⟨.inr rfl, hs⟩
    · exact ⟨.inl a, b⟩
  · rintro ⟨a | a, b⟩
    · exact .inr ⟨a, b⟩
    · exact .inl a
theorem MoreR.res {up u : List Int} {ms M : List DotV} (h : MoreR ms u ms.length M) (hk : KpU up ms u) (hd : ∀ d ∈ ms, isD d = true) (hn : ∀ j, j < ms.length → (ms.getD j ⟨0, 0⟩).n ≠ u.getD ((ms.getD j ⟨0, 0⟩).c - 1).toNat 0 + 1) : ResV up ms (if 32 < M.length then List.replicate 16 0 else u) (if 32 < M.length then [] else M) (if 32 < M.length then 11 else 0) := by
  obtain ⟨h1, h2, _⟩ := h
  rw [List.take_length] at h2
  refine make_res (make_end hk.1 hd hk.2 (fun d hdm => ?_) h2 h1)
  obtain ⟨j, hj, e⟩ := List.mem_iff_getElem.1 hdm
  have := hn j hj
  rwa [show ms.getD j ⟨0, 0⟩ = d by simp [List.getD, hj, e]] at this
/-- Two dots that change places: what the region's operations leave, what lies in memory. -/
structure SwJ (wp : World) (g2 gd G q c2 : Nat) (u : List Int) (d y : DotV) (l : List DotV) (i : Nat) (L : Nat → Bool) (W : World) : Prop where
  own : OwnD W wp.heap.size (.slice (some ⟨g2, 0, none⟩) (q + 1) c2) (if L 17 = true then (l.set (i + 1) y).set i d else if L 15 = true then l.set (i + 1) y else l)
  hd : Bk W (G + 2) 25 (ctxRow u (some ⟨g2, 0, none⟩) (q + 1) c2)
  bx : Bk W gd 27 d.row
  gr : wp.grownBy W (some (G + 2))
  o1 : L 15 = true → L 12 = true
  o2 : L 17 = true → L 15 = true
def SwR (g2 gd G q c2 i : Nat) (d y : DotV) : Nat → Value → Prop
  | 0, v => v = .pointer (some ⟨G + 2, 16, none⟩)
  | 1, v => v = .slice (some ⟨g2, 0, none⟩) (q + 1) c2
  | 2, v => v = .int .i64 ((i : Int) + 1)
  | 3, v => v = .pointer (some ⟨G + 2, 16, none⟩)
  | 4, v => v = .slice (some ⟨g2, 0, none⟩) (q + 1) c2
  | 5, v => v = .int .i64 ((i : Int) + 1)
  | 6, v => v = .int .i64 (i : Int)
  | 7, v => v = .pointer (some ⟨G + 2, 16, none⟩)
  | 8, v => v = .slice (some ⟨g2, 0, none⟩) (q + 1) c2
  | 9, v => v = .int .i64 ((i : Int) + 1)
  | 10, v => v = .int .i64 (i : Int)
  | 11, v => v = .pointer (some ⟨g2, i * 2, none⟩)
  | 12, v => v = .agg y.row
  | 13, v => v = .agg d.row
  | 14, v => v = .pointer (some ⟨g2, (i + 1) * 2, none⟩)
  | 16, v => v = .pointer (some ⟨g2, i * 2, none⟩)
  | _, _ => True
section
variable {wp W W' : World} {g2 gd G q c2 i : Nat} {u : List Int} {d y : DotV} {l : List DotV} {L : Nat → Bool}
theorem SwJ.same (h : SwJ wp g2 gd G q c2 u d y l i L W) (n : Nat) (hn : n ≠ 15 ∧ n ≠ 17) : SwJ wp g2 gd G q c2 u d y l i (fun j => decide (j = n) || L j) W := by
  obtain ⟨h1, h2, h3, h4, h5, h6⟩ := h
  refine ⟨?_, h2, h3, h4, fun e => ?_, fun e => ?_⟩
  · simp only [orf_ne (L := L) (Ne.symm hn.1), orf_ne (L := L) (Ne.symm hn.2)]
    exact h1
  · simp only [orf_ne (L := L) (Ne.symm hn.1)] at e
    simp [h5 e]
  · simp only [orf_ne (L := L) (Ne.symm hn.1), orf_ne (L := L) (Ne.symm hn.2)] at e ⊢
    exact h6 e
theorem SwJ.head (h : SwJ wp g2 gd G q c2 u d y l i L W) (hU : u.length = 16) : W.cell? ⟨G + 2, 16, none⟩ = some (.slice (some ⟨g2, 0, none⟩) (q + 1) c2) := (h.hd.cell 16).trans (ctxRow_more u _ _ _ hU)
theorem SwJ.first (h : SwJ wp g2 gd G q c2 u d y l i L W) (hL : L 12 = false) : OwnD W wp.heap.size (.slice (some ⟨g2, 0, none⟩) (q + 1) c2) l := by
  have h15 : L 15 = false := by cases e : L 15 with | false => rfl | true => have := h.o1 e; rw [hL] at this; cases this
  have h17 : L 17 = false := by cases e : L 17 with | false => rfl | true => have := h.o2 e; rw [h15] at this; cases this
  have h1 := h.own
  rw [h17, h15] at h1
  exact h1
theorem SwJ.one (h : SwJ wp g2 gd G q c2 u d y l i L W) (hL : L 15 = false) : OwnD W wp.heap.size (.slice (some ⟨g2, 0, none⟩) (q + 1) c2) l := by
  have h17 : L 17 = false := by cases e : L 17 with | false => rfl | true => have := h.o2 e; rw [hL] at this; cases this
  have h1 := h.own
  rw [h17, hL] at h1
  exact h1
theorem SwJ.two (h : SwJ wp g2 gd G q c2 u d y l i L W) (h15 : L 15 = true) (hL : L 17 = false) : OwnD W wp.heap.size (.slice (some ⟨g2, 0, none⟩) (q + 1) c2) (l.set (i + 1) y) := by
  have h1 := h.own
  rw [hL, h15] at h1
  exact h1
theorem SwJ.set1 (h : SwJ wp g2 gd G q c2 u d y l i L W) (hL : L 15 = false) (h12 : L 12 = true) (hg : W.grownBy W' (some g2)) (ho : OwnD W' wp.heap.size (.slice (some ⟨g2, 0, none⟩) (q + 1) c2) (l.set (i + 1) y)) (hb : wp.heap.size ≤ g2) (hG : G + 3 ≤ wp.heap.size) (hne : g2 ≠ gd) : SwJ wp g2 gd G q c2 u d y l i (fun j => decide (j = 15) || L j) W' := by
  have h17 : L 17 = false := by cases e : L 17 with | false => rfl | true => have := h.o2 e; rw [hL] at this; cases this
  refine ⟨?_, h.hd.grown hg (fun e => by injection e with e; omega), h.bx.grown hg (fun e => by injection e with e; omega), ⟨hg.os.trans h.gr.os, hg.tape.trans h.gr.tape, hg.output.trans h.gr.output, Nat.le_trans h.gr.size hg.size, fun b hb' hne' => (hg.block b (Nat.lt_of_lt_of_le hb' h.gr.size) (fun e => by injection e with e; omega)).trans (h.gr.block b hb' hne')⟩, fun _ => by simp [h12], fun e => ?_⟩
  · simp [h17]
    exact ho
  · simp [h17] at e
theorem SwJ.set2 (h : SwJ wp g2 gd G q c2 u d y l i L W) (h15 : L 15 = true) (hg : W.grownBy W' (some g2)) (ho : OwnD W' wp.heap.size (.slice (some ⟨g2, 0, none⟩) (q + 1) c2) ((l.set (i + 1) y).set i d)) (hb : wp.heap.size ≤ g2) (hG : G + 3 ≤ wp.heap.size) (hne : g2 ≠ gd) : SwJ wp g2 gd G q c2 u d y l i (fun j => decide (j = 17) || L j) W' := by
  refine ⟨?_, h.hd.grown hg (fun e => by injection e with e; omega), h.bx.grown hg (fun e => by injection e with e; omega), ⟨hg.os.trans h.gr.os, hg.tape.trans h.gr.tape, hg.output.trans h.gr.output, Nat.le_trans h.gr.size hg.size, fun b hb' hne' => (hg.block b (Nat.lt_of_lt_of_le hb' h.gr.size) (fun e => by injection e with e; omega)).trans (h.gr.block b hb' hne')⟩, fun _ => by simp [h.o1 h15], fun e => by simp [h15]⟩
  simp
  exact ho
theorem SwJ.drew (h : SwJ wp g2 gd G q c2 u d y l i L W) : SwJ wp g2 gd G q c2 u d y l i L { W with drawn := W.drawn + 1 } := ⟨h.own, h.hd, h.bx, ⟨h.gr.os, h.gr.tape, h.gr.output, h.gr.size, h.gr.block⟩, h.o1, h.o2⟩
theorem SwJ.done (h : SwJ wp g2 gd G q c2 u d y l i L W) (h17 : L 17 = true) : OwnD W wp.heap.size (.slice (some ⟨g2, 0, none⟩) (q + 1) c2) ((l.set (i + 1) y).set i d) := by
  have h1 := h.own
  rw [h17] at h1
  exact h1
end
theorem step_put_dot {ops : Array Oper} {o : Oper} {a : Act} {w : World} {K : Act → World → Prop} {Q : Exit → Act → World → Prop} {E : Prop} {base g n c : Nat} {l : List DotV} (hgd : o.guard = none) (x y : Operand) (ho : o.op = .store 27 x y)
    (h : OwnD w base (.slice (some ⟨g, 0, none⟩) n c) l) (k : Nat) (hk : k < n) (hx : a.eval x = .pointer (some ⟨g, k * 2, none⟩)) (d : DotV) (hy : a.eval y = .agg d.row)
    (hK : ∀ w', OwnD w' base (.slice (some ⟨g, 0, none⟩) n c) (l.set k d) → w.grownBy w' (some g) → w'.heap.size = w.heap.size → K (a.put o.dst undef) w') : if Region.wanted o (yielded ops a.tmps) = true then Oper.wp Try.prog o a w K Q else E := by
  have hw : Region.wanted o (yielded ops a.tmps) = true := by simp [Region.wanted, hgd]
  rw [if_pos hw]
  obtain ⟨_, hn⟩ := h.rd
  have hl2 : d.row.toList.length = 2 := rfl
  obtain ⟨w', hst, hg', hs', hown⟩ := h.edit (k * 2) d.row.toList (by omega) (fun v hv => by simp [DotV.row] at hv; rcases hv with rfl | rfl <;> rfl)
  have hown' := hown n (l.set k d) (Nat.le_refl _) (by rw [List.length_set, hn]) (by
    rw [rowD_set l k d (by omega), List.take_of_length_le (by rw [rowD_len, List.length_set]; omega)])
  have hrun : (storeVar 27 ⟨g, k * 2, none⟩ (.agg d.row)).run Try.prog w = .ok () w' := by
    have hi := iD_
    cases hq : Try.prog.info? 27 with
    | none => rw [hq] at hi; cases hi
    | some i =>
      have hs : i.size = 2 := by rw [hq] at hi; simpa using hi
      have hc : (Value.agg d.row).cells = d.row := rfl
      have hz : d.row.size = 2 := rfl
      simp [storeVar, sizeOf, typeInfo, hq, hc, hz, hs, hst]
  unfold Oper.wp execOp
  simp only [ho, hx, hy, Instr.storeAt, Instr.sureAddr, Sem.run_bind, Sem.run_pure, Result.andThen_ok, hrun]
  exact hK w' hown' hg' hs'
end Go.Proofs.Ytjflmfmncepeeaa
