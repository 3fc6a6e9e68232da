/-
  What lies behind a disk's pointer; what is asked of it, and its fuse.
-/
import Derived.Test.YtibnfldddpmafaaDka
import Derived.Test.YtibnfldddpmafaaGn
import Derived.LaidEqlPtr
namespace Go.Proofs.Ytibnfldddpmafaa
open Go.RowKit
set_option linter.unusedVariables false
set_option linter.unusedSimpArgs false

def wrR (x : Nat × List UInt8 × List UInt8) : Array Value := #[.int .i64 (x.1 : Int)] ++ rowOf x.2.1 ++ rowOf x.2.2
theorem wrR_size (x : Nat × List UInt8 × List UInt8) (h1 : x.2.1.length = 64) (h2 : x.2.2.length = 64) : (wrR x).size = 129 := by simp [wrR, rowOf_size, h1, h2]
def dkT : List TypeId := [63, 27, 68]
/-- What lies behind a disk's pointer: F was synced, R was written since. -/
structure DkV (b0 : Nat) (w : World) (p q n : Nat) (F : List (List UInt8)) (R : List WrV) (v : Value) (fu : Nat) (off : Bool) : Prop where
  hp : b0 ≤ p
  hq : b0 ≤ q
  n1 : 1 ≤ n
  n2 : n ≤ 8192
  hF : F.length = n
  F64 : ∀ D ∈ F, D.length = 64
  hR : ∀ x ∈ R, x.1 < n ∧ x.2.length = 64
  hfu : fu ≤ 9223372036854775807
  bp : Bk w p 63 #[.slice (some ⟨q, 0, none⟩) n n, v, .int .i64 (fu : Int), .bool off]
  lo : w.ownsRow b0 68 129 v R.length (flatC wrR (wasL F R))
  bq : Bk w q 27 (flatC rowOf (appl F R)).toArray
def DkI (b0 : Nat) (w : World) (p q n : Nat) (F : List (List UInt8)) (R : List WrV) (fu : Nat) (off : Bool) : Prop := ∃ v, DkV b0 w p q n F R v fu off
section
variable {b0 : Nat} {w w' : World} {p q n : Nat} {F : List (List UInt8)} {R : List WrV} {v : Value} {fu : Nat} {off : Bool} {T : List TypeId}
theorem DkV.unt (h : DkV b0 w p q n F R v fu off) (hu : UnT T w w') (ht : ∀ t ∈ dkT, t ∉ T) : DkV b0 w' p q n F R v fu off :=
  ⟨h.hp, h.hq, h.n1, h.n2, h.hF, h.F64, h.hR, h.hfu, h.bp.unt hu (ht _ (by simp [dkT])), ownsRow_unt h.lo hu (ht _ (by simp [dkT])), h.bq.unt hu (ht _ (by simp [dkT]))⟩
theorem DkI.unt (h : DkI b0 w p q n F R fu off) (hu : UnT T w w') (ht : ∀ t ∈ dkT, t ∉ T) : DkI b0 w' p q n F R fu off := by
  obtain ⟨v, h⟩ := h
  exact ⟨v, h.unt hu ht⟩
theorem DkV.below (h : DkV b0 w p q n F R v fu off) (hb : Below w.heap.size w w') : DkV b0 w' p q n F R v fu off := h.unt (T := []) ⟨hb.size, fun k hk _ => hb.block k hk⟩ fun _ _ => by simp
theorem DkI.below (h : DkI b0 w p q n F R fu off) (hb : Below w.heap.size w w') : DkI b0 w' p q n F R fu off := h.unt (T := []) ⟨hb.size, fun k hk _ => hb.block k hk⟩ fun _ _ => by simp
theorem DkV.form (h : DkV b0 w p q n F R v fu off) : ∃ A c, v = .slice A R.length c := by
  rcases h.lo.2 with ⟨hv, h0⟩ | ⟨g, cap, cur, hv, _⟩
  · exact ⟨none, 0, by rw [h0]; exact hv⟩
  · exact ⟨_, cap, hv⟩
theorem DkV.cells (h : DkV b0 w p q n F R v fu off) : w.cell? ⟨p, 0, none⟩ = some (.slice (some ⟨q, 0, none⟩) n n) ∧ w.cell? ⟨p, 1, none⟩ = some v ∧ w.cell? ⟨p, 2, none⟩ = some (.int .i64 (fu : Int)) ∧ w.cell? ⟨p, 3, none⟩ = some (.bool off) :=
  ⟨h.bp.cell 0, h.bp.cell 1, h.bp.cell 2, h.bp.cell 3⟩
theorem Bk.putD {t : TypeId} {cs : Array Value} (h : Bk w p t cs) (hp : b0 ≤ p) (ht : t ∈ T) (i : Nat) (u : Value) : Below b0 w (w.setCell ⟨p, i, none⟩ u) ∧ UnT T w (w.setCell ⟨p, i, none⟩ u) :=
  ⟨(Below.refl b0 w).setCell (p := ⟨p, i, none⟩) hp u, UnT.of_grown (grown_put (World.grownBy.refl w _) i u) fun k e => by
    injection e with e
    subst e
    exact ⟨cs, t, (0, 0), h, ht⟩⟩
theorem DkV.turn (h : DkV b0 w p q n F R v fu off) (i : Nat) (u : Value) {fu' : Nat} {off' : Bool} (hf : fu' ≤ 9223372036854775807)
    (hb : Bk (w.setCell ⟨p, i, none⟩ u) p 63 #[.slice (some ⟨q, 0, none⟩) n n, v, .int .i64 (fu' : Int), .bool off']) : DkV b0 (w.setCell ⟨p, i, none⟩ u) p q n F R v fu' off' := by
  have hne : ∀ k, k ≠ p → (w.setCell ⟨p, i, none⟩ u).heap[k]? = w.heap[k]? := fun k hk => Below.heap_setCell w ⟨p, i, none⟩ u k hk
  refine ⟨h.hp, h.hq, h.n1, h.n2, h.hF, h.F64, h.hR, hf, hb, ownsRow_heapk h.lo fun g hg => hne g fun e => ?_, h.bq.far (p := ⟨p, i, none⟩) (h.bq.neT h.bp (by decide)) u⟩
  subst e
  exact h.bp.neRow h.lo (by decide) hg.symm
theorem DkV.fuse_ (h : DkV b0 w p q n F R v fu off) (fu' : Nat) (hf : fu' ≤ 9223372036854775807) : DkV b0 (w.setCell ⟨p, 2, none⟩ (.int .i64 (fu' : Int))) p q n F R v fu' off := h.turn 2 _ hf (h.bp.set_ 2 _)
theorem DkV.off_ (h : DkV b0 w p q n F R v fu off) (off' : Bool) : DkV b0 (w.setCell ⟨p, 3, none⟩ (.bool off')) p q n F R v fu off' := h.turn 3 _ h.hfu (h.bp.set_ 3 _)
theorem DkV.app64 (h : DkV b0 w p q n F R v fu off) : ∀ D ∈ appl F R, D.length = 64 := appl_all R F h.F64 fun x hx => (h.hR x hx).2
/-- All stays. -/
theorem DkV.sync (h : DkV b0 w p q n F R v fu off) : DkV b0 (w.setCell ⟨p, 1, none⟩ (.slice none 0 0)) p q n (appl F R) [] (.slice none 0 0) fu off :=
  ⟨h.hp, h.hq, h.n1, h.n2, by rw [appl_len]; exact h.hF, h.app64, fun _ hx => (by cases hx), h.hfu, h.bp.set_ 1 _, World.ownsRow_nil _ _ _ _, h.bq.far (p := ⟨p, 1, none⟩) (h.bq.neT h.bp (by decide)) _⟩
end
section
variable {b0 : Nat} {w : World} {p q n : Nat} {F : List (List UInt8)} {R : List WrV} {fu : Nat} {off : Bool}
set_option maxRecDepth 100000 in
set_option maxHeartbeats 1000000 in
theorem made_yes (h : DkI b0 w p q n F R fu off) : Calls Try.prog 25 #[.pointer (some ⟨p, 0, none⟩)] w fun e w' => e = .returned (.bool true) ∧ w = w' := by
  obtain ⟨v, h⟩ := h
  obtain ⟨c0, _, _, _⟩ := h.cells
  have n1 := h.n1
  have d1 : decide ((n : Int) > 0) = true := decide_eq_true (by omega)
  have d2 : decide ((0 : Int) < (n : Int)) = true := decide_eq_true (by omega)
  have d3 : decide (0 < n) = true := decide_eq_true (by omega)
  clear h n1
  go_enter Try.func25, Try.ntmps25
  go_wp2
  go_ret
  exact ⟨rfl, rfl⟩
set_option maxRecDepth 100000 in
set_option maxHeartbeats 1000000 in
theorem made_nil (w : World) : Calls Try.prog 25 #[.pointer none] w fun e w' => e = .returned (.bool false) ∧ w = w' := by
  go_enter Try.func25, Try.ntmps25
  go_wp2
  go_ret
  exact ⟨rfl, rfl⟩
set_option maxRecDepth 100000 in
set_option maxHeartbeats 1000000 in
theorem powered_any (h : DkI b0 w p q n F R fu off) : Calls Try.prog 29 #[.pointer (some ⟨p, 0, none⟩)] w fun e w' => e = .returned (.int .i64 (if off = true then 9 else 0)) ∧ w = w' := by
  have ci := made_yes h
  obtain ⟨v, h⟩ := h
  obtain ⟨_, _, _, c3⟩ := h.cells
  clear h
  cases off <;>
  · go_enter Try.func29, Try.ntmps29
    go_wp2_with (go_at_call 25; ((with_reducible refine ci.mono ?_); clear ci; rintro e w' ⟨rfl, rfl⟩))
    go_ret
    exact ⟨rfl, rfl⟩
set_option maxRecDepth 100000 in
set_option maxHeartbeats 1000000 in
theorem powered_nil (w : World) : Calls Try.prog 29 #[.pointer none] w fun e w' => e = .returned (.int .i64 1) ∧ w = w' := by
  have ci := made_nil w
  go_enter Try.func29, Try.ntmps29
  go_wp2_with (go_at_call 25; ((with_reducible refine ci.mono ?_); clear ci; rintro e w' ⟨rfl, rfl⟩))
  go_ret
  exact ⟨rfl, rfl⟩
/-- Why a sector can't be read or written: a down disk, no such one; else nothing. -/
def hasE (n : Nat) (off : Bool) (z : Int) : Int := if off = true then 9 else if z < 0 ∨ (n : Int) ≤ z then 1 else 0
set_option maxRecDepth 100000 in
set_option maxHeartbeats 2000000 in
theorem dhas_any (h : DkI b0 w p q n F R fu off) (z : Int) : Calls Try.prog 27 #[.pointer (some ⟨p, 0, none⟩), .int .i64 z] w fun e w' => e = .returned (.int .i64 (hasE n off z)) ∧ w = w' := by
  have ci := powered_any h
  obtain ⟨v, h⟩ := h
  obtain ⟨c0, _, _, _⟩ := h.cells
  clear h
  unfold hasE
  cases off
  · by_cases h0 : z < 0
    · rw [if_neg (by decide), if_pos (.inl h0)]
      have d1 : decide (z < 0) = true := decide_eq_true h0
      clear h0
      go_enter Try.func27, Try.ntmps27
      go_wp2_with (go_at_call 29; ((with_reducible refine ci.mono ?_); clear ci; rintro e w' ⟨rfl, rfl⟩))
      go_ret
      exact ⟨rfl, rfl⟩
    · have d1 : decide (z < 0) = false := decide_eq_false h0
      by_cases h1 : (n : Int) ≤ z
      · rw [if_neg (by decide), if_pos (.inr h1)]
        have d2 : decide ((n : Int) ≤ z) = true := decide_eq_true h1
        clear h0 h1
        go_enter Try.func27, Try.ntmps27
        go_wp2_with (go_at_call 29; ((with_reducible refine ci.mono ?_); clear ci; rintro e w' ⟨rfl, rfl⟩))
        go_ret
        exact ⟨rfl, rfl⟩
      · rw [if_neg (by decide), if_neg (by omega)]
        have d2 : decide ((n : Int) ≤ z) = false := decide_eq_false h1
        clear h0 h1
        go_enter Try.func27, Try.ntmps27
        go_wp2_with (go_at_call 29; ((with_reducible refine ci.mono ?_); clear ci; rintro e w' ⟨rfl, rfl⟩))
        go_ret
        exact ⟨rfl, rfl⟩
  · rw [if_pos rfl]
    go_enter Try.func27, Try.ntmps27
    go_wp2_with (go_at_call 29; ((with_reducible refine ci.mono ?_); clear ci; rintro e w' ⟨rfl, rfl⟩))
    go_ret
    exact ⟨rfl, rfl⟩
set_option maxRecDepth 100000 in
set_option maxHeartbeats 1000000 in
theorem dhas_nil (w : World) (z : Int) : Calls Try.prog 27 #[.pointer none, .int .i64 z] w fun e w' => e = .returned (.int .i64 1) ∧ w = w' := by
  have ci := powered_nil w
  go_enter Try.func27, Try.ntmps27
  go_wp2_with (go_at_call 29; ((with_reducible refine ci.mono ?_); clear ci; rintro e w' ⟨rfl, rfl⟩))
  go_ret
  exact ⟨rfl, rfl⟩
/-- An act that tells an error or none. -/
def DkP (b0 : Nat) (w : World) (p q n : Nat) (F : List (List UInt8)) (R : List WrV) (fu : Nat) (off : Bool) (z : Int) (e : Ending) (w' : World) : Prop :=
  e = .returned (.int .i64 z) ∧ DkI b0 w' p q n F R fu off ∧ Below b0 w w' ∧ UnT dkT w w'
def burnO (fu : Nat) (off : Bool) : Bool := off || decide (fu = 1)
def burnE (fu : Nat) : Int := if fu = 1 then 9 else 0
set_option maxRecDepth 100000 in
set_option maxHeartbeats 2000000 in
theorem dburn_any (h : DkI b0 w p q n F R fu false) : Calls Try.prog 28 #[.pointer (some ⟨p, 0, none⟩)] w (DkP b0 w p q n F R (fu - 1) (burnO fu false) (burnE fu)) := by
  obtain ⟨v, h⟩ := h
  rcases fu with _ | _ | k
  · obtain ⟨c0, c1, c2, c3⟩ := h.cells
    have HH := hidD_ h
    clear h
    go_enter Try.func28, Try.ntmps28
    go_wp2
    go_ret
    exact ⟨rfl, ⟨v, HH.out⟩, Below.refl _ _, UnT.refl _ _⟩
  · obtain ⟨c0, c1, c2, c3⟩ := h.cells
    have f2 := h.bp.frozen 2
    have f3 := h.bp.frozen 3
    have X := h.fuse_ 0 (by omega)
    have Y := hidD_ (X.off_ true)
    have P1 := hidD_ (Bk.putD (T := dkT) h.bp h.hp (by simp [dkT]) 2 (.int .i64 ((0 : Nat) : Int)))
    have P2 := hidD_ (Bk.putD (T := dkT) X.bp h.hp (by simp [dkT]) 3 (.bool true))
    clear X h
    have e0 : ((0 + 1 : Nat) : Int) = 1 := rfl
    rw [e0] at c2
    go_enter Try.func28, Try.ntmps28
    go_wp2
    go_ret
    exact ⟨rfl, ⟨v, Y.out⟩, P1.out.1.trans P2.out.1, P1.out.2.trans P2.out.2⟩
  · obtain ⟨c0, c1, c2, c3⟩ := h.cells
    have f2 := h.bp.frozen 2
    have f3 := h.bp.frozen 3
    have hfu := h.hfu
    have X := hidD_ (h.fuse_ (k + 1) (by omega))
    have P1 := hidD_ (Bk.putD (T := dkT) h.bp h.hp (by simp [dkT]) 2 (.int .i64 ((k + 1 : Nat) : Int)))
    have e1 : IntKind.i64.wrap (((k + 1 + 1 : Nat) : Int) - 1) = ((k + 1 : Nat) : Int) := by rw [IntWalk.i64_in _ (by omega)]; omega
    have d1 : (((k + 1 + 1 : Nat) : Int) == 0) = false := by simp; omega
    have d2 : decide (0 < ((k + 1 : Nat) : Int)) = true := decide_eq_true (by omega)
    clear h hfu
    generalize ((k + 1 + 1 : Nat) : Int) = z2 at *
    generalize ((k + 1 : Nat) : Int) = z1 at *
    go_enter Try.func28, Try.ntmps28
    go_wp2
    go_ret
    exact ⟨by simp [burnE], ⟨v, by simpa [burnO] using X.out⟩, P1.out⟩
end
end Go.Proofs.Ytibnfldddpmafaa
