/-
  Slices of slices of bytes that came in; the witnesses' worlds for laws of one and of two arguments.
-/
import Derived.Test.YtegfnlnbhhmkjaaDoorRR
import Derived.Test.YtegfnlnbhhmkjaaDoorQc
import Derived.Test.YtegfnlnbhhmkjaaDoorLc
import Derived.Deep.Matrix
namespace Go.Proofs.YtegfnlnbhhmkjaaDoor
set_option maxRecDepth 100000
open Go.ChangeShapes Go.WideShapes Go.ChangeAt Go.RowKit
set_option linter.unusedVariables false

theorem Parts.below {w w' : World} {B C : Nat} {A : Option Addr} {ls : List (List UInt8)} (h : Parts w B A ls) (hb : Below C w w') (hB : B ≤ C) : Parts w' B A ls := fun h0 => by
  obtain ⟨b, off, e, hlt, hc⟩ := h h0
  refine ⟨b, off, e, hlt, fun j hj => ?_⟩
  obtain ⟨Aj, cj, h1, h2, h3⟩ := hc j hj
  exact ⟨Aj, cj, (hb.cell (p := ⟨b, off + j, none⟩) (by show b < C; omega)).trans h1, h2.below (hb.mono hB), h3⟩
theorem Parts.more {w : World} {B C : Nat} {A : Option Addr} {ls : List (List UInt8)} (h : Parts w B A ls) (hB : B ≤ C) : Parts w C A ls := fun h0 => by
  obtain ⟨b, off, e, hlt, hc⟩ := h h0
  refine ⟨b, off, e, by omega, fun j hj => ?_⟩
  obtain ⟨Aj, cj, h1, h2, h3⟩ := hc j hj
  exact ⟨Aj, cj, h1, h2.more hB, h3⟩

/-- A slice of slices of bytes that came in, nil and empty ones too. -/
theorem open_parts {H : Type} {enc : TypeId × Value → H} {P : Program} {t e q : TypeId} {w : World} {b0 : Nat} {held : Bool} {r : Reach} {v : Value} {d : DataW H} {p : List MemPlace}
    (ht : P.underlying t = some (.slice e)) (he : P.underlying e = some (.slice q)) (hq : P.underlying q = some (.int .u8)) (ce : P.cellsOf e = 1) (cq : P.cellsOf q = 1)
    (hv : Value.okWide P w r b0 t v) (h : DataW.Trod enc P w 0 (fun _ => true) held t v d p) :
    ∃ A n c ls, v = .slice A n c ∧ (ls : List (List UInt8)).length = n ∧ Parts w w.heap.size A ls ∧ n ≤ maxLen := by
  obtain ⟨a0, len, cap, rfl⟩ := okWide_slice ht hv
  obtain ⟨fuel, hf⟩ := h
  rcases Go.Deep.open_int_rows ht he hq ce cq hf with ⟨hcs, hx⟩ | ⟨a, len', cap', A, L, C, Z, hcs, _, hl, hm, hx, hcell⟩
  · simp [Value.cells] at hcs
    obtain ⟨rfl, rfl, rfl⟩ := hcs
    exact ⟨none, 0, 0, [], rfl, rfl, fun h => absurd h (by simp), Nat.zero_le _⟩
  · simp [Value.cells] at hcs
    obtain ⟨rfl, rfl, rfl⟩ := hcs
    refine ⟨some a, len, cap, (List.range len).map fun r => ((Z r).take (L r)).map fun n => UInt8.ofNat n.toNat, rfl, by simp, fun h0 => ?_, Nat.le_trans hl hm⟩
    have h0' : 0 < len := by simpa using h0
    obtain ⟨b, off, spot⟩ := a
    have hc0 := (hcell 0 (by omega)).1
    have hspot : spot = none := by simpa [Addr.add] using World.cell?_spot hc0
    subst hspot
    have hplain : ∀ (g o j : Nat), (⟨g, o, none⟩ : Addr).add j = ⟨g, o + j, none⟩ := fun g o j => by unfold Addr.add; split <;> simp_all
    refine ⟨b, off, rfl, World.block_lt_of_cell? w _ hc0, fun j hj => ?_⟩
    have hj' : j < len := by simpa using hj
    obtain ⟨hc, hLC, hCm, hZ, hwf, hnone, hsome⟩ := hcell j (by omega)
    have hget : ((List.range len).map fun r => ((Z r).take (L r)).map fun n => UInt8.ofNat n.toNat).getD j [] = ((Z j).take (L j)).map fun n => UInt8.ofNat n.toNat := by simp [List.getD, hj']
    have hlen : (((Z j).take (L j)).map fun n => UInt8.ofNat n.toNat).length = L j := by rw [List.length_map, List.length_take]; omega
    rw [hget]
    refine ⟨A j, C j, ?_, fun h1 => ?_, by rw [hlen]; exact hLC, by simp only [maxLen] at hCm; omega⟩
    · rw [hlen, ← hplain]; exact hc
    · rw [hlen] at h1
      cases hA : A j with
      | none => have := hnone hA; omega
      | some a' =>
        obtain ⟨g, o, spot⟩ := a'
        have hs := (hsome _ hA).2
        have hg0 := hs 0 (by omega)
        have hsp : spot = none := by simpa [Addr.add] using World.cell?_spot hg0
        subst hsp
        refine ⟨g, o, rfl, World.block_lt_of_cell? w _ hg0, fun i hi => ?_⟩
        rw [hlen] at hi
        rw [← hplain, hs i (by omega)]
        have hb := bounds_u8 (hwf ((Z j).getD i 0) (by simp [List.getD, show i < (Z j).length by omega]))
        have e1 : (((Z j).take (L j)).map fun n => UInt8.ofNat n.toNat).getD i 0 = UInt8.ofNat ((Z j).getD i 0).toNat := by
          simp [List.getD, hi, show i < (Z j).length by omega]
        rw [e1]
        generalize (Z j).getD i 0 = z at hb
        congr 2
        simp
        omega
theorem laid_met1 (os : Os) : laidMet Tryd.prog [("casket/sha2.roundWords", Rows.laid_casket_sha2_roundWords)] ((laidWorld os).forCall (fun _ _ => 0) ⟨#[], #[.slice none 0 0], []⟩).memory :=
  laidMet_of_run' 8 (by kernel_rfl) (by kernel_rfl)
end Go.Proofs.YtegfnlnbhhmkjaaDoor
