/-
  Words for a vault's laws: numbers drawn into bounds, what two cuts leave, a vault of the call's own while other blocks turn.
-/
import Derived.Test.YtoeofifibjelnaaDoorYj
namespace Go.Proofs.YtoeofifibjelnaaDoor
set_option maxRecDepth 100000
open Go.ChangeShapes Go.WideShapes Go.ChangeAt Go.RowKit
set_option linter.unusedVariables false
set_option linter.unusedSimpArgs false

theorem u64_natY (z : Int) : ∃ x : Nat, IntKind.u64.wrap z = (x : Int) ∧ x ≤ 18446744073709551615 := by
  have h : IntKind.u64.wrap z = z % 18446744073709551616 := by simp [IntKind.wrap, IntKind.signed, IntKind.bits]
  have h0 : 0 ≤ z % 18446744073709551616 := Int.emod_nonneg _ (by omega)
  have h1 : z % 18446744073709551616 < 18446744073709551616 := Int.emod_lt_of_pos _ (by omega)
  exact ⟨(z % 18446744073709551616).toNat, by rw [h]; omega, by omega⟩
theorem u8_byteY (z : Int) : ∃ u : UInt8, IntKind.u8.wrap z = ((u.toNat : Nat) : Int) := by
  have h : IntKind.u8.wrap z = z % 256 := by simp [IntKind.wrap, IntKind.signed, IntKind.bits]
  have h0 : 0 ≤ z % 256 := Int.emod_nonneg _ (by omega)
  have h1 : z % 256 < 256 := Int.emod_lt_of_pos _ (by omega)
  refine ⟨UInt8.ofNat (z % 256).toNat, ?_⟩
  have : (UInt8.ofNat (z % 256).toNat).toNat = (z % 256).toNat := by simp; omega
  rw [this, h]
  omega
/-- A number drawn into 0 .. m-1: what the walk wants. -/
structure RestY (z : Int) (m U R : Nat) : Prop where
  u : IntKind.u64.wrap z = (U : Int)
  t : (U : Int).tmod (m : Int) = (R : Int)
  r : (U : Int) % (m : Int) = (R : Int)
  wu : IntKind.u64.wrap (R : Int) = (R : Int)
  wi : IntKind.i64.wrap (R : Int) = (R : Int)
  lt : R < m
theorem restY (z : Int) (m : Nat) (h0 : 0 < m) (h1 : m ≤ 1000000000) : ∃ U R, RestY z m U R := by
  obtain ⟨U, hU, hb⟩ := u64_natY z
  have hlt : U % m < m := Nat.mod_lt _ h0
  have e : (U : Int) % (m : Int) = ((U % m : Nat) : Int) := by simp
  exact ⟨U, U % m, hU, by rw [Int.tmod_eq_emod_of_nonneg (by omega), e], e, IntWalk.u64_in _ (by omega), IntWalk.i64_in _ (by omega), hlt⟩
theorem restU (U m : Nat) (h0 : 0 < m) (h1 : m ≤ 1000000000) : ∃ R : Nat, (U : Int).tmod (m : Int) = (R : Int) ∧ (U : Int) % (m : Int) = (R : Int) ∧ IntKind.u64.wrap (R : Int) = (R : Int) ∧ IntKind.i64.wrap (R : Int) = (R : Int) ∧ R < m := by
  have hlt : U % m < m := Nat.mod_lt _ h0
  have e : (U : Int) % (m : Int) = ((U % m : Nat) : Int) := by simp
  exact ⟨U % m, by rw [Int.tmod_eq_emod_of_nonneg (by omega), e], e, IntWalk.u64_in _ (by omega), IntWalk.i64_in _ (by omega), hlt⟩
/-- What two cuts of an act leave. -/
def CtR (g : Nat) (q : VAct) (mw mb : Nat) (X B : List UInt8) (base : Nat) : Nat → Value → World → Prop
  | 0, u, _ => u = .pointer (some ⟨g, 4, none⟩)
  | 1, u, _ => u = .slice q.wa q.wl.length q.wc
  | 2, u, W => ∃ A c, u = .slice A mw c ∧ Own8 W base (.slice A mw c) X
  | 3, u, _ => u = .pointer (some ⟨g, 5, none⟩)
  | 4, u, _ => u = .slice q.ba q.bl.length q.bc
  | 5, u, W => ∃ A c, u = .slice A mb c ∧ Own8 W base (.slice A mb c) B
  | 6, u, W => ∃ A c, u = .slice A mw c ∧ Own8 W base (.slice A mw c) X
  | 7, u, W => ∃ A c, u = .slice A mb c ∧ Own8 W base (.slice A mb c) B
  | _, _, _ => True
theorem CtR.stable {g : Nat} {q : VAct} {mw mb : Nat} {X B : List UInt8} {base : Nat} {W W' : World} (hT : Below W.heap.size W W') : ∀ (j : Nat) (u : Value), CtR g q mw mb X B base j u W → CtR g q mw mb X B base j u W'
  | 0, _, h => h
  | 1, _, h => h
  | 2, _, ⟨A, c, e, h⟩ => ⟨A, c, e, h.below hT (Nat.le_refl _)⟩
  | 3, _, h => h
  | 4, _, h => h
  | 5, _, ⟨A, c, e, h⟩ => ⟨A, c, e, h.below hT (Nat.le_refl _)⟩
  | 6, _, ⟨A, c, e, h⟩ => ⟨A, c, e, h.below hT (Nat.le_refl _)⟩
  | 7, _, ⟨A, c, e, h⟩ => ⟨A, c, e, h.below hT (Nat.le_refl _)⟩
  | _ + 8, _, _ => trivial
section
variable {w W W' : World} {v sp nm kn : Nat} {K : List UInt8} {N : List (List UInt8)} {S : List (Nat × Nat)} {L : List SealV} {F : List Nat}
theorem Mine.grownB (h : Mine w v sp nm kn K N S L F W) {row : Option Nat} (hg : W.grownBy W' row) (hr : ∀ k, row = some k → w.heap.size ≤ k ∧ k ∉ F) : Mine w v sp nm kn K N S L F W' :=
  ⟨h.vlt.keep (fun k hk => hg.block k (h.vlt.hF k hk) (fun e => (hr k e.symm).2 hk)) hg.size, h.own, h.below.grown hg h.below.size (fun k hk => (hr k hk).1)⟩
theorem Mine.set (h : Mine w v sp nm kn K N S L F W) {g i : Nat} (u : Value) (hw : w.heap.size ≤ g) (hF : g ∉ F) : Mine w v sp nm kn K N S L F (W.setCell ⟨g, i, none⟩ u) :=
  ⟨h.vlt.keep (fun k hk => Below.heap_setCell W ⟨g, i, none⟩ u k (fun e => hF (by rw [← show k = g from e]; exact hk))) (by simp), h.own, h.below.setCell (p := ⟨g, i, none⟩) hw u⟩
end
theorem ownBlock_some {A : Option Addr} {n c k : Nat} (h : (Value.slice A n c).ownBlock = some k) : ∃ a, A = some a ∧ a.block = k := by
  cases A with
  | none => simp [Value.ownBlock] at h
  | some a => exact ⟨a, rfl, by simpa [Value.ownBlock] using h⟩
theorem set_neY (l : List UInt8) (i : Nat) (v : UInt8) (h : i < l.length) (hv : v ≠ l.getD i 0) : l.set i v ≠ l := by
  intro e
  have h1 := congrArg (fun m => m.getD i 0) e
  simp [List.getD, h] at h1
  apply hv
  simp [List.getD, h]
  exact h1
theorem xor_neY (v u : UInt8) (h : u ≠ 0) : v ^^^ u ≠ v := by
  intro e
  apply h
  have : v ^^^ (v ^^^ u) = v ^^^ v := by rw [e]
  simpa [← UInt8.xor_assoc] using this
theorem append_neY (l : List UInt8) (u : UInt8) : l ++ [u] ≠ l := by
  intro e
  have := congrArg List.length e
  simp at this
end Go.Proofs.YtoeofifibjelnaaDoor
