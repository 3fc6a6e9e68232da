/-
  A write of a disk, laid, and appended.
-/
import Derived.Test.YtibnfldddpmafaaDke
namespace Go.Proofs.Ytibnfldddpmafaa
open Go.RowKit
set_option linter.unusedVariables false
set_option linter.unusedSimpArgs false

theorem fold_put (off : Nat) (vs cs : Array Value) (k : Nat) : (vs.zipIdx.foldl (fun cs (x : Value × Nat) => cs.setIfInBounds (off + x.2) x.1) cs).size = cs.size ∧
    (vs.zipIdx.foldl (fun cs (x : Value × Nat) => cs.setIfInBounds (off + x.2) x.1) cs)[k]? = if off ≤ k ∧ k < off + vs.size ∧ k < cs.size then vs[k - off]? else cs[k]? := by
  have e : vs.zipIdx.foldl (fun cs (x : Value × Nat) => cs.setIfInBounds (off + x.2) x.1) cs = (vs.toList.zipIdx 0).foldl (fun cs (x : Value × Nat) => cs.setIfInBounds (off + x.2) x.1) cs := by
    rw [← Array.foldl_toList, Array.toList_zipIdx]
  obtain ⟨h1, h2⟩ := Go.Great.foldl_set off vs.toList 0 cs
  rw [e]
  exact ⟨h1, by rw [h2 k]; simp⟩
theorem fill_three (z : Array Value) (hz : z.size = 129) (x : Int) (A B : Array Value) (hA : A.size = 64) (hB : B.size = 64) :
    Instr.fill (#[(0, 1), (1, 64), (65, 64)][·]?) z [(0, .int .i64 x), (1, .agg A), (2, .agg B)] = some (#[.int .i64 x] ++ A ++ B) := by
  have c0 : (Value.int .i64 x).cells = #[.int .i64 x] := rfl
  have cA : (Value.agg A).cells = A := rfl
  have cB : (Value.agg B).cells = B := rfl
  obtain ⟨s1, _⟩ := fold_put 0 #[.int .i64 x] z 0
  have p1 := fun k => (fold_put 0 #[.int .i64 x] z k).2
  generalize hz1 : (#[Value.int .i64 x].zipIdx.foldl (fun cs (x : Value × Nat) => cs.setIfInBounds (0 + x.2) x.1) z) = z1 at s1 p1
  obtain ⟨s2, _⟩ := fold_put 1 A z1 0
  have p2 := fun k => (fold_put 1 A z1 k).2
  generalize hz2 : (A.zipIdx.foldl (fun cs (x : Value × Nat) => cs.setIfInBounds (1 + x.2) x.1) z1) = z2 at s2 p2
  obtain ⟨s3, _⟩ := fold_put 65 B z2 0
  have p3 := fun k => (fold_put 65 B z2 k).2
  generalize hz3 : (B.zipIdx.foldl (fun cs (x : Value × Nat) => cs.setIfInBounds (65 + x.2) x.1) z2) = z3 at s3 p3
  simp only [Instr.fill, List.getElem?_toArray, List.getElem?_cons_zero, List.getElem?_cons_succ, c0, cA, cB, hA, hB]
  rw [if_neg (by simp [hz]), hz1, if_neg (by simp; omega), hz2, if_neg (by simp; omega), hz3]
  congr 1
  apply Array.ext_getElem?
  intro k
  rw [p3, p2, p1]
  have e3 : (#[Value.int .i64 x] ++ A ++ B).size = 129 := by simp [hA, hB]
  by_cases k0 : k = 0
  · subst k0
    rw [if_neg (by omega), if_neg (by omega), if_pos (by simp; omega), Array.append_assoc, Array.getElem?_append_left (by simp)]
  by_cases k1 : k < 65
  · rw [if_neg (by omega), if_pos (by omega), Array.getElem?_append_left (by simp; omega), Array.getElem?_append_right (by simp; omega)]
    simp
  by_cases k2 : k < 129
  · rw [if_pos (by omega), Array.getElem?_append_right (by simp; omega)]
    simp [hA]
  · rw [if_neg (by omega), if_neg (by omega), if_neg (by simp; omega), Array.getElem?_eq_none (by omega), Array.getElem?_eq_none (by omega)]
theorem infoW : (Try.prog.info? 68).map (fun i => (i.size, i.bytes, i.zero.map (·.cells.size))) = some (129, 136, some 129) := by kernel_rfl
theorem placesW : (match Try.prog.underlying 68 with | some (.struct fields) => fields.toList.mapM (fun f => (Try.prog.info? f.type).map fun i => (f.offset, i.size)) | _ => none) = some [(0, 1), (1, 64), (65, 64)] := by kernel_rfl
theorem built_wr (z : Nat) (X Y : List UInt8) (hX : X.length = 64) (hY : Y.length = 64) : Try.prog.built 68 [(0, .int .i64 (z : Int)), (1, .agg (rowOf X)), (2, .agg (rowOf Y))] = some (wrR (z, X, Y)) := by
  obtain ⟨i, hi, hii⟩ := Option.map_eq_some_iff.1 infoW
  simp only [Prod.mk.injEq] at hii
  obtain ⟨hsize, hby, hzz⟩ := hii
  obtain ⟨zz, hz, hzs⟩ := Option.map_eq_some_iff.1 hzz
  have hp := placesW
  have hu := Try.underlying68
  unfold Program.built
  rw [hu] at hp
  simp only at hp
  simp only [hi, hu, hz, hp]
  exact fill_three zz.cells hzs _ _ _ (by rw [rowOf_size, hX]) (by rw [rowOf_size, hY])
theorem wrR_one (x : Nat × List UInt8 × List UInt8) : ∀ u ∈ (wrR x).toList, u.oneCell' = true := fun u hu => by
  simp only [wrR, Array.toList_append, List.mem_append] at hu
  rcases hu with (h | h) | h
  · simp at h
    subst h
    rfl
  · exact rowOf_ones _ u h
  · exact rowOf_ones _ u h
/-- A slice of one write. -/
theorem run_oneW (w : World) (x : Nat × List UInt8 × List UInt8) (h1 : x.2.1.length = 64) (h2 : x.2.2.length = 64) : (Instr.buildSlice 61 1 #[(0, .agg (wrR x))]).run Try.prog w = .ok (.slice (some ⟨w.heap.size, 0, none⟩) 1 1) (w.alloc (.cells (wrR x) 68)) := by
  obtain ⟨i, hi, hii⟩ := Option.map_eq_some_iff.1 infoW
  simp only [Prod.mk.injEq] at hii
  obtain ⟨hsize, hby, hzz⟩ := hii
  obtain ⟨z, hz, hzs⟩ := Option.map_eq_some_iff.1 hzz
  refine run_buildSlice w 61 68 1 _ (wrR x) i z Try.underlying61 hi hz (by rw [hsize]; decide) (by rw [hsize]; decide) ?_
  rw [hsize]
  have h := Go.Great.fill_whole (s := 129) (by decide) [.agg (wrR x)] ((Array.range (1 * 129)).map (z.cells[· % z.cells.size]!)) (fun v hv => by simp at hv; subst hv; exact wrR_size x h1 h2) (by simp)
  rw [show ([Value.agg (wrR x)].flatMap fun v => v.cells.toList).toArray = wrR x by simp [Value.cells]] at h
  exact h
/-- A write appended. -/
theorem run_appW {w : World} {b0 : Nat} {v : Value} {l : List (Nat × List UInt8 × List UInt8)} (h : w.ownsRow b0 68 129 v l.length (flatC wrR l)) (x : Nat × List UInt8 × List UInt8) (h1 : x.2.1.length = 64) (h2 : x.2.2.length = 64) (g : Nat) (hg : Bk w g 68 (wrR x)) (ty : TypeId) (c : Nat) (hsz : l.length + 1 ≤ 1000000) (hbase : b0 ≤ w.heap.size) :
    ∃ A' c' w', (Builtin.append_ #[61, 61] ty #[v, .slice (some ⟨g, 0, none⟩) 1 c]).run Try.prog w = .ok (.slice A' (l.length + 1) c') w' ∧ w'.ownsRow b0 68 129 (.slice A' (l.length + 1) c') (l.length + 1) (flatC wrR (l ++ [x])) ∧ w.grownBy w' v.ownBlock := by
  obtain ⟨i, hi, hii⟩ := Option.map_eq_some_iff.1 infoW
  simp only [Prod.mk.injEq] at hii
  obtain ⟨hsize, hby, hzz⟩ := hii
  obtain ⟨z, hz, hzs⟩ := Option.map_eq_some_iff.1 hzz
  have hplain : ∀ j, (⟨g, 0, none⟩ : Addr).add j = ⟨g, j, none⟩ := fun j => by unfold Addr.add; split <;> simp_all
  obtain ⟨v', w', hrun, h4, h3, _, h5⟩ := run_append_own_at (P := Try.prog) w b0 61 ty 68 i z 129 136 Try.underlying61 hi hz hsize hby hzs (by decide) v l.length (flatC wrR l) h ⟨g, 0, none⟩ 1 c (wrR x).toList
    (by rw [Array.length_toList, wrR_size x h1 h2]) (fun j u hj => by rw [hplain, hg.cell]; simpa using hj) (wrR_one x) (by simp only [maxLen]; omega) (by omega) hbase
  rw [← flatC_snoc] at h4
  rcases h4.2 with ⟨_, h0⟩ | ⟨g', cap, cur, rfl, _⟩
  · omega
  · exact ⟨_, _, w', hrun, h4, h3⟩
end Go.Proofs.Ytibnfldddpmafaa
