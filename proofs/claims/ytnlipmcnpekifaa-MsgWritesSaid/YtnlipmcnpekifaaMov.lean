/-
  A message of the document's that came in.
-/
import Derived.Test.YtnlipmcnpekifaaMon
namespace Go.Proofs.Ytnlipmcnpekifaa
set_option maxRecDepth 100000
open Go.ChangeShapes Go.WideShapes Go.ChangeAt Go.RowKit
set_option linter.unusedVariables false
set_option linter.unusedSimpArgs false

/-- All numbers are ints. -/
structure MgBd (m : MgV) : Prop where
  kind : m.kind ≤ 9223372036854775807
  frm : m.frm ≤ 9223372036854775807
  ask : m.ask ≤ 9223372036854775807
  err : m.err ≤ 9223372036854775807
  for_ : m.for_ ≤ 9223372036854775807
  level : m.level ≤ 9223372036854775807
  ats : ∀ x ∈ m.ats, x ≤ 9223372036854775807
section
variable {H : Type} {enc : TypeId × Value → H} {w : World} {sp : Nat → Bool} {held : Bool}
theorem cells1m : Try.prog.cellsOf 3 = 1 ∧ Try.prog.cellsOf 9 = 1 ∧ Try.prog.cellsOf 24 = 1 ∧ Try.prog.cellsOf 25 = 1 ∧ Try.prog.cellsOf 26 = 1 ∧ Try.prog.cellsOf 23 = 2 := ⟨by kernel_rfl, by kernel_rfl, by kernel_rfl, by kernel_rfl, by kernel_rfl, by kernel_rfl⟩
theorem cells_rr (fuel : Nat) (cs : List Value) (d : DataW H × List MemPlace) (hlc : cs.length = 2) (hf : DataW.trod enc Try.prog w 0 sp held fuel 23 cs = some d) : ∃ q : KrV, cs = rrE.c q ∧ True := by
  obtain ⟨n, hg⟩ := trod_fieldsG Try.underlying23 hf
  obtain ⟨ci, cst, csl, csd, csr, cr⟩ := cells1m
  match cs, hlc with
  | [k0, k1], _ =>
    obtain ⟨y0, g0⟩ := hg 0 _ rfl
    have g0 : DataW.trod enc Try.prog w 0 sp held n 9 (([k0, k1].drop 0).take (Try.prog.cellsOf 9)) = some y0 := g0
    rw [cst] at g0
    obtain ⟨y1, g1⟩ := hg 1 _ rfl
    have g1 : DataW.trod enc Try.prog w 0 sp held n 9 (([k0, k1].drop 1).take (Try.prog.cellsOf 9)) = some y1 := g1
    rw [cst] at g1
    simp only [List.drop_succ_cons, List.drop_zero, List.take_succ_cons, List.take_zero] at g0 g1
    obtain ⟨s0, e0, _⟩ := cells_strG Try.underlying9 g0
    obtain ⟨s1, e1, _⟩ := cells_strG Try.underlying9 g1
    simp only [List.cons.injEq, and_true] at e0 e1
    exact ⟨⟨s0, s1⟩, by rw [e0, e1]; rfl, trivial⟩
theorem cells_rmB (fuel : Nat) (cs : List Value) (d : DataW H × List MemPlace) (hlc : cs.length = 11) (hf : DataW.trod enc Try.prog w 0 sp held fuel 28 cs = some d) : ∃ q : RmV, cs = (rmC q).toList ∧ q.Ok w w.heap.size ∧ q.ats.length ≤ q.ac ∧ q.digs.length ≤ maxLen ∧ q.rows.length ≤ maxLen ∧ MgBd q.v := by
  obtain ⟨n, hg⟩ := trod_fieldsG Try.underlying28 hf
  obtain ⟨ci, cst, csl, csd, csr, cr⟩ := cells1m
  match cs, hlc with
  | [k0, k1, k2, k3, k4, k5, k6, k7, k8, k9, k10], _ =>
    obtain ⟨y0, g0⟩ := hg 0 _ rfl
    have g0 : DataW.trod enc Try.prog w 0 sp held n 3 (([k0, k1, k2, k3, k4, k5, k6, k7, k8, k9, k10].drop 0).take (Try.prog.cellsOf 3)) = some y0 := g0
    rw [ci] at g0
    obtain ⟨y1, g1⟩ := hg 1 _ rfl
    have g1 : DataW.trod enc Try.prog w 0 sp held n 3 (([k0, k1, k2, k3, k4, k5, k6, k7, k8, k9, k10].drop 1).take (Try.prog.cellsOf 3)) = some y1 := g1
    rw [ci] at g1
    obtain ⟨y2, g2⟩ := hg 2 _ rfl
    have g2 : DataW.trod enc Try.prog w 0 sp held n 3 (([k0, k1, k2, k3, k4, k5, k6, k7, k8, k9, k10].drop 2).take (Try.prog.cellsOf 3)) = some y2 := g2
    rw [ci] at g2
    obtain ⟨y3, g3⟩ := hg 3 _ rfl
    have g3 : DataW.trod enc Try.prog w 0 sp held n 3 (([k0, k1, k2, k3, k4, k5, k6, k7, k8, k9, k10].drop 3).take (Try.prog.cellsOf 3)) = some y3 := g3
    rw [ci] at g3
    obtain ⟨y4, g4⟩ := hg 4 _ rfl
    have g4 : DataW.trod enc Try.prog w 0 sp held n 3 (([k0, k1, k2, k3, k4, k5, k6, k7, k8, k9, k10].drop 4).take (Try.prog.cellsOf 3)) = some y4 := g4
    rw [ci] at g4
    obtain ⟨y5, g5⟩ := hg 5 _ rfl
    have g5 : DataW.trod enc Try.prog w 0 sp held n 3 (([k0, k1, k2, k3, k4, k5, k6, k7, k8, k9, k10].drop 5).take (Try.prog.cellsOf 3)) = some y5 := g5
    rw [ci] at g5
    obtain ⟨y6, g6⟩ := hg 6 _ rfl
    have g6 : DataW.trod enc Try.prog w 0 sp held n 23 (([k0, k1, k2, k3, k4, k5, k6, k7, k8, k9, k10].drop 6).take (Try.prog.cellsOf 23)) = some y6 := g6
    rw [cr] at g6
    obtain ⟨y8, g8⟩ := hg 7 _ rfl
    have g8 : DataW.trod enc Try.prog w 0 sp held n 24 (([k0, k1, k2, k3, k4, k5, k6, k7, k8, k9, k10].drop 8).take (Try.prog.cellsOf 24)) = some y8 := g8
    rw [csl] at g8
    obtain ⟨y9, g9⟩ := hg 8 _ rfl
    have g9 : DataW.trod enc Try.prog w 0 sp held n 25 (([k0, k1, k2, k3, k4, k5, k6, k7, k8, k9, k10].drop 9).take (Try.prog.cellsOf 25)) = some y9 := g9
    rw [csd] at g9
    obtain ⟨y10, g10⟩ := hg 9 _ rfl
    have g10 : DataW.trod enc Try.prog w 0 sp held n 26 (([k0, k1, k2, k3, k4, k5, k6, k7, k8, k9, k10].drop 10).take (Try.prog.cellsOf 26)) = some y10 := g10
    rw [csr] at g10
    simp only [List.drop_succ_cons, List.drop_zero, List.take_succ_cons, List.take_zero] at g0 g1 g2 g3 g4 g5 g6 g8 g9 g10
    obtain ⟨z0, e0, b0⟩ := cells_intG Try.underlying3 g0
    obtain ⟨z1, e1, b1⟩ := cells_intG Try.underlying3 g1
    obtain ⟨z2, e2, b2⟩ := cells_intG Try.underlying3 g2
    obtain ⟨z3, e3, b3⟩ := cells_intG Try.underlying3 g3
    obtain ⟨z4, e4, b4⟩ := cells_intG Try.underlying3 g4
    obtain ⟨z5, e5, b5⟩ := cells_intG Try.underlying3 g5
    obtain ⟨r6, e6, _⟩ := cells_rr _ _ _ rfl g6
    obtain ⟨A8, l8, c8, e8, r8, b8, h8, m8⟩ := cells_rowG (N := intE) (fun z => z ≤ 9223372036854775807) Try.underlying24 ci (fun n cs x _ h => by obtain ⟨z, e, _, hz⟩ := cells_intG Try.underlying3 h; exact ⟨z, e, hz⟩) g8
    obtain ⟨A9, l9, c9, e9, r9, _, h9, m9⟩ := cells_rowG (N := strE) (fun _ => True) Try.underlying25 cst (fun n cs x _ h => by obtain ⟨z, e, _⟩ := cells_strG Try.underlying9 h; exact ⟨z, e, trivial⟩) g9
    obtain ⟨A10, l10, c10, e10, r10, _, h10, m10⟩ := cells_rowG (N := rrE) (fun _ => True) Try.underlying26 cr (fun n cs x hl h => cells_rr n cs x hl h) g10
    obtain ⟨s6, s7⟩ := r6
    have e6 : [k6, k7] = [.string (strOf s6), .string (strOf s7)] := e6
    simp only [List.cons.injEq, and_true] at e0 e1 e2 e3 e4 e5 e6 e8 e9 e10
    refine ⟨⟨z0, z1, z2, z3, z4, z5, s6, s7, l8, A8, c8, l9, A9, c9, l10, A10, c10⟩, ?_, ⟨r8, r9, r10⟩, h8, Nat.le_trans h9 m9, Nat.le_trans h10 m10, ⟨b0.2, b1.2, b2.2, b3.2, b4.2, b5.2, b8⟩⟩
    rw [e0, e1, e2, e3, e4, e5, e6.1, e6.2, e8, e9, e10]
    rfl
theorem cells_rm (fuel : Nat) (cs : List Value) (d : DataW H × List MemPlace) (hlc : cs.length = 11) (hf : DataW.trod enc Try.prog w 0 sp held fuel 28 cs = some d) : ∃ q : RmV, cs = (rmC q).toList ∧ q.Ok w w.heap.size ∧ q.ats.length ≤ q.ac ∧ q.digs.length ≤ maxLen ∧ q.rows.length ≤ maxLen := by
  obtain ⟨q, h1, h2, h3, h4, h5, _⟩ := cells_rmB fuel cs d hlc hf
  exact ⟨q, h1, h2, h3, h4, h5⟩
theorem open_rm {b0 : Nat} {r : Reach} {v : Value} {d : DataW H} {p : List MemPlace} (hv : Value.okWide Try.prog w r b0 28 v) (h : DataW.Trod enc Try.prog w 0 sp held 28 v d p) :
    ∃ q : RmV, v = .agg (rmC q) ∧ q.Ok w w.heap.size ∧ q.ats.length ≤ q.ac ∧ q.digs.length ≤ maxLen ∧ q.rows.length ≤ maxLen := by
  obtain ⟨cs, rfl, hs⟩ := okWide_struct Try.underlying28 hv
  obtain ⟨fuel, hf⟩ := h
  have hc : Try.prog.cellsOf 28 = 11 := by kernel_rfl
  obtain ⟨q, e, h1, h2, h3, h4⟩ := cells_rm fuel cs.toList _ (by rw [Array.length_toList, hs, hc]) hf
  exact ⟨q, by rw [← Array.toList_inj.1 e], h1, h2, h3, h4⟩
theorem open_rmB {b0 : Nat} {r : Reach} {v : Value} {d : DataW H} {p : List MemPlace} (hv : Value.okWide Try.prog w r b0 28 v) (h : DataW.Trod enc Try.prog w 0 sp held 28 v d p) :
    ∃ q : RmV, v = .agg (rmC q) ∧ q.Ok w w.heap.size ∧ q.ats.length ≤ q.ac ∧ q.digs.length ≤ maxLen ∧ q.rows.length ≤ maxLen ∧ MgBd q.v := by
  obtain ⟨cs, rfl, hs⟩ := okWide_struct Try.underlying28 hv
  obtain ⟨fuel, hf⟩ := h
  have hc : Try.prog.cellsOf 28 = 11 := by kernel_rfl
  obtain ⟨q, e, h1, h2, h3, h4, h5⟩ := cells_rmB fuel cs.toList _ (by rw [Array.length_toList, hs, hc]) hf
  exact ⟨q, by rw [← Array.toList_inj.1 e], h1, h2, h3, h4, h5⟩
end
end Go.Proofs.Ytnlipmcnpekifaa
