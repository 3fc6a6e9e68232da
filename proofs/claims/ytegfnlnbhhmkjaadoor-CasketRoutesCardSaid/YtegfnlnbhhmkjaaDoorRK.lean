/-
  Merged: Rgz Rgk Rgo.
-/
import Derived.Test.YtegfnlnbhhmkjaaDoorRW
import Derived.Deep.Upon
namespace Go.Proofs.YtegfnlnbhhmkjaaDoor
set_option maxRecDepth 100000
open Go.ChangeShapes Go.WideShapes Go.ChangeAt Go.RowKit
set_option linter.unusedVariables false
set_option linter.unusedSimpArgs false

/-- A pair laid, then appended: nothing made; laid; both. -/
def LaJ (wA wB wC : World) (D : Nat → Bool) (W : World) : Prop :=
  (D 10 = false ∧ D 11 = false ∧ wA = W) ∨ (D 10 = true ∧ D 11 = false ∧ wB = W) ∨ (D 10 = true ∧ D 11 = true ∧ wC = W)
section
variable {wA wB wC W : World} {D : Nat → Bool}
theorem LaJ.same (h : LaJ wA wB wC D W) (i : Nat) (h1 : i ≠ 10) (h2 : i ≠ 11) : LaJ wA wB wC (fun j => decide (j = i) || D j) W := by
  rcases h with ⟨a, b, c⟩ | ⟨a, b, c⟩ | ⟨a, b, c⟩
  · exact .inl ⟨by simp [a, Ne.symm h1], by simp [b, Ne.symm h2], c⟩
  · exact .inr (.inl ⟨by simp [a], by simp [b, Ne.symm h2], c⟩)
  · exact .inr (.inr ⟨by simp [a], by simp [b], c⟩)
theorem LaJ.at1 (h : LaJ wA wB wC D W) (hL : D 10 = false) : W = wA := by
  rcases h with ⟨a, b, c⟩ | ⟨a, b, c⟩ | ⟨a, b, c⟩
  · exact c.symm
  · rw [a] at hL; cases hL
  · rw [a] at hL; cases hL
theorem LaJ.one (hL : D 10 = false) (h1 : D 11 = false) : LaJ wA wB wC (fun j => decide (j = 10) || D j) wB := .inr (.inl ⟨by simp, by simp [h1], rfl⟩)
theorem LaJ.at2 (h : LaJ wA wB wC D W) (hL : D 11 = false) (h1 : D 10 = true) : W = wB := by
  rcases h with ⟨a, b, c⟩ | ⟨a, b, c⟩ | ⟨a, b, c⟩
  · rw [a] at h1; cases h1
  · exact c.symm
  · rw [b] at hL; cases hL
theorem LaJ.no2 (h : LaJ wA wB wC D W) (hL : D 10 = false) : D 11 = false := by
  rcases h with ⟨a, b, c⟩ | ⟨a, b, c⟩ | ⟨a, b, c⟩
  · exact b
  · rw [a] at hL; cases hL
  · rw [a] at hL; cases hL
theorem LaJ.two (h1 : D 10 = true) : LaJ wA wB wC (fun j => decide (j = 11) || D j) wC := .inr (.inr ⟨by simp [h1], by simp, rfl⟩)
theorem LaJ.end_ (h : LaJ wA wB wC D W) (h2 : D 11 = true) : W = wC := by
  rcases h with ⟨a, b, c⟩ | ⟨a, b, c⟩ | ⟨a, b, c⟩
  · rw [b] at h2; cases h2
  · rw [b] at h2; cases h2
  · exact c.symm
end
def StR (w : World) (l : List PrV) (e : Ending) (w' : World) : Prop := ∃ A c, e = .returned (.slice A l.length c) ∧ RdE w' w'.heap.size A l ∧ Below w.heap.size w w'
end Go.Proofs.YtegfnlnbhhmkjaaDoor

namespace Go.Proofs.YtegfnlnbhhmkjaaDoor
set_option maxRecDepth 100000
open Go.ChangeShapes Go.WideShapes Go.ChangeAt Go.RowKit
set_option linter.unusedVariables false
set_option linter.unusedSimpArgs false

theorem sliceW_to (A : Option Addr) (n c : Nat) (z : Int) (k : Nat) (hz : z = (k : Int)) (hk : k ≤ c) (W : World) :
    (Instr.slice 24 (.slice A n c) none (some (.int .i64 z)) none).run Tryd.prog W = .ok (.slice A k c) W := by
  subst hz
  have he : Tryd.prog.elem 24 = 4 := by kernel_rfl
  rw [run_slice_h W 24 A n c (by rw [he]; exact Tryd.underlying24) .i64 k (by omega) (by omega)]
  have hs : (sizeOf (Tryd.prog.elem 24)).run Tryd.prog W = .ok 1 W := by
    rw [he]
    obtain ⟨i, hi, hz, hsize, hby⟩ := info_parts infoW
    simp [sizeOf, typeInfo, hi, hsize]
  rw [hs]
  simp only [Result.andThen, sliced]
  congr 2
  by_cases h : c = 0
  · rw [if_pos h]
  · rw [if_neg h]
    cases A with
    | none => rfl
    | some a => simp [Addr.add]
set_option maxRecDepth 100000 in
set_option maxHeartbeats 4000000 in
theorem stand_bad (w : World) (g : Nat) (L : List PtV) (hr : RingIs w g L) (hs : Srt ltP L) (hm : L.length ≤ 1000000) (K : List UInt8) (hK : K.length = 32) (ws : List Nat) (hws : walkV (plB K) L = ws) (n : Nat) (h1 : 1 ≤ n) (hn : n ≤ ws.length) (h8 : ws.length ≤ 8)
    (Au : Option Addr) (q cu : Nat) (hq : q ≠ ws.length) :
    Calls Tryd.prog 7 #[.pointer (some ⟨g, 0, none⟩), .agg (rowOf K), .int .i64 (n : Int), .slice Au q cu] w fun e w' => e = .returned (.tuple #[.slice none 0 0, .int .i64 1]) ∧ Below w.heap.size w w' := by
  obtain ⟨gk, hgk⟩ : ∃ g, w.heap.size = g := ⟨_, rfl⟩
  obtain ⟨w0, hw0⟩ : ∃ W, w.alloc (.cells (rowOf K) 23) = W := ⟨_, rfl⟩
  have b0 : Below w.heap.size w w0 := by rw [← hw0]; exact (Below.refl _ _).alloc (Nat.le_refl _) _
  have k0 : Bk w0 gk 23 (rowOf K) := by rw [← hw0, ← hgk]; exact Bk.new w _ _
  obtain ⟨gu, hgu⟩ : ∃ g, w0.heap.size = g := ⟨_, rfl⟩
  obtain ⟨w1, hw1⟩ : ∃ W, w0.alloc (.cells #[.slice Au q cu] 24) = W := ⟨_, rfl⟩
  have B1 := hidrg_ (show Below w.heap.size w w1 by rw [← hw1]; exact b0.alloc b0.size _)
  have K1 := hidrg_ (show Bk w1 gk 23 (rowOf K) by rw [← hw1]; exact k0.alloc _)
  have U1 := hidrg_ (show Bk w1 gu 24 #[.slice Au q cu] by rw [← hw1, ← hgu]; exact Bk.new w0 _ _)
  have KL := hidrg_ (iBlind K hK)
  have cw := walk_any w1 g L (hr.below B1.out) hs hm K hK
  rw [hws] at cw
  obtain ⟨m, hwm⟩ : ∃ m, ws.length = m := ⟨_, rfl⟩
  unfold NewZ at cw
  rw [hwm] at cw hn h8 hq
  have t1 : ¬ (n : Int) < 1 := by omega
  have t2 : ¬ (m : Int) < (n : Int) := by omega
  have t3 : ((q : Int) == (m : Int)) = false := by simp; omega
  have t4 : ((q : Int) != (m : Int)) = true := by simp; omega
  clear b0 k0 hr hs hm hK hws hwm
  go_enter Tryd.func7, Tryd.ntmps7
  go_upto_region 2 with (first
    | (refine wpList_load_row rfl 23 (.tmp 5) rfl gk rfl 23 (rowOf K) (0, 0) _ K1.out Tryd.underlying23 rfl KL.out ?_)
    | (go_at_call 18; ((with_reducible refine cw.mono ?_); clear cw; rintro e w3 ⟨A, c, rfl, ho, hb⟩; have B3 := hidrg_ (B1.out.trans (hb.mono B1.out.size)); have U3 := hidrg_ (U1.out.below hb U1.out.lt); clear ho hb)))
  have ku := (show w3.cell? ⟨gu, 0, none⟩ = some (.slice Au q cu) from U3.out.cell 0)
  go_wp2
  go_ret2
  exact ⟨rfl, by first | exact B3.out | (rw [← hgk]; exact B3.out)⟩
end Go.Proofs.YtegfnlnbhhmkjaaDoor

namespace Go.Proofs.YtegfnlnbhhmkjaaDoor
set_option maxRecDepth 100000
open Go.ChangeShapes Go.WideShapes Go.ChangeAt Go.RowKit
set_option linter.unusedVariables false
set_option linter.unusedSimpArgs false

/-- An array of two ints, taken by value. -/
theorem open_pairR {H : Type} {enc : TypeId × Value → H} {P : Program} {t e : TypeId} {w : World} {b0 base : Nat} {sp : Nat → Bool} {held : Bool} {r : Reach} {v : Value} {d : DataW H} {p : List MemPlace}
    (ht : P.underlying t = some (.array 2 e)) (he : P.underlying e = some (.int .i64)) (hc : P.cellsOf e = 1) (hct : P.cellsOf t = 2)
    (hv : Value.okWide P w r b0 t v) (h : DataW.Trod enc P w base sp held t v d p) :
    ∃ a b : Int, v = .agg #[.int .i64 a, .int .i64 b] ∧ (-9223372036854775808 ≤ a ∧ a ≤ 9223372036854775807) ∧ (-9223372036854775808 ≤ b ∧ b ≤ 9223372036854775807) := by
  obtain ⟨cs, rfl, hsz, _⟩ : ∃ cs, v = .agg cs ∧ cs.size = P.cellsOf t ∧ Row.okWide P w r b0 t cs := by simpa [Value.okWide, ht] using hv
  rw [hct] at hsz
  obtain ⟨l⟩ := cs
  match l, hsz with
  | [c0, c1], _ =>
    obtain ⟨fuel, hf⟩ := h
    obtain ⟨xs, m, _, _, _, hl, hel⟩ := DataW.trod_array ht hf
    have h0 := hel 0 (by omega)
    have h1 := hel 1 (by omega)
    rw [hc] at h0 h1
    rw [List.getElem?_eq_getElem (by omega)] at h0 h1
    obtain ⟨a, e0, _, wa⟩ := DataW.trod_int he h0
    obtain ⟨b, e1, _, wb⟩ := DataW.trod_int he h1
    simp [Value.cells] at e0 e1
    exact ⟨a, b, by rw [e0, e1], bounds_i64 wa, bounds_i64 wb⟩
theorem cells_boolsW {H : Type} {enc : TypeId × Value → H} {P : Program} {t e : TypeId} {w : World} {fuel : Nat} {sp : Nat → Bool} {held : Bool} {cs : List Value} {d : DataW H × List MemPlace}
    (ht : P.underlying t = some (.slice e)) (he : P.underlying e = some .bool) (hc : P.cellsOf e = 1)
    (hf : DataW.trod enc P w 0 sp held fuel t cs = some d) :
    ∃ A S c, cs = [.slice A (S : List Bool).length c] ∧ RdW w w.heap.size A S ∧ S.length ≤ c ∧ c ≤ maxLen := by
  rcases Go.Deep.open_slice1 ht hc hf with ⟨hcs, hx⟩ | ⟨a, len, cap, m, n, V, D, Pl, hcs, _, hl, hm, hmm, hx, hel⟩
  · exact ⟨none, [], 0, hcs, fun h => absurd h (by simp), Nat.le_refl _, Nat.zero_le _⟩
  · have hlm : len ≤ m := by rw [hmm]; split <;> omega
    obtain ⟨B, hB⟩ := Go.Deep.choose_lt (α := Bool) (n := len) (p := fun i b => w.cell? (a.add i) = some (.bool b)) (fun i hi => by
      obtain ⟨h1, h2⟩ := hel i (by omega)
      obtain ⟨b, h3, _⟩ := DataW.trod_bool he h2
      exact ⟨b, by rw [h1]; simpa using h3⟩)
    refine ⟨some a, (List.range len).map B, cap, by simpa using hcs, fun hn => ?_, by simpa using hl, hm⟩
    have hn' : 0 < len := by simpa using hn
    obtain ⟨b, off, spot⟩ := a
    have hc0 := hB 0 hn'
    have hspot : spot = none := by simpa [Addr.add] using World.cell?_spot hc0
    subst hspot
    have hplain : ∀ j, (⟨b, off, none⟩ : Addr).add j = ⟨b, off + j, none⟩ := fun j => by unfold Addr.add; split <;> simp_all
    refine ⟨b, off, rfl, World.block_lt_of_cell? w _ hc0, fun j hj => ?_⟩
    have hj' : j < len := by simpa using hj
    have := hB j hj'
    rw [hplain] at this
    rw [this]
    simp [List.getD, hj']
theorem open_boolW {H : Type} {enc : TypeId × Value → H} {P : Program} {t e : TypeId} {w : World} {b0 : Nat} {sp : Nat → Bool} {held : Bool} {r : Reach} {v : Value} {d : DataW H} {p : List MemPlace}
    (ht : P.underlying t = some (.slice e)) (he : P.underlying e = some .bool) (hc : P.cellsOf e = 1) (hv : Value.okWide P w r b0 t v) (h : DataW.Trod enc P w 0 sp held t v d p) :
    ∃ A S c, v = .slice A (S : List Bool).length c ∧ RdW w w.heap.size A S ∧ S.length ≤ c ∧ c ≤ maxLen := by
  obtain ⟨a0, len, cap, rfl⟩ := okWide_slice ht hv
  obtain ⟨fuel, hf⟩ := h
  obtain ⟨A, S, c, e1, h1, h2, h3⟩ := cells_boolsW ht he hc hf
  simp [Value.cells] at e1
  obtain ⟨rfl, rfl, rfl⟩ := e1
  exact ⟨_, S, _, rfl, h1, h2, h3⟩
end Go.Proofs.YtegfnlnbhhmkjaaDoor
