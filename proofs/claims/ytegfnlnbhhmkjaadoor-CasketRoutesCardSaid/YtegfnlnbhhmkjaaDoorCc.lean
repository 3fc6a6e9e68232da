/-
  Contracts: slices.Clone, slices.Grow (of nothing), slices.Concat of bytes.
-/
import Derived.Test.YtegfnlnbhhmkjaaDoorAp
import Derived.Test.YtegfnlnbhhmkjaaDoorBB
import Derived.Lib.AppendZerosOnto
import Derived.Lib.SliceRun
import Derived.WalkSpells
import Derived.WalkLawsBesides
import Derived.BigCall
namespace Go.Proofs.YtegfnlnbhhmkjaaDoor
set_option maxRecDepth 100000
open Go.RowKit
set_option linter.unusedVariables false

theorem hidk_ {p : Prop} (h : p) : Hid p := h
/-- What comes back is a slice of the call's own that reads as l; below, all is as it was. -/
def NewP (w : World) (n : Nat) (l : List UInt8) (e : Ending) (w' : World) : Prop :=
  ∃ A c, e = .returned (.slice A n c) ∧ Own8 w' w.heap.size (.slice A n c) l ∧ Below w.heap.size w w'

set_option maxRecDepth 100000 in
set_option maxHeartbeats 1000000 in
theorem clone_any (A : Option Addr) (n c : Nat) (l : List UInt8) (w : World) (hn : l.length = n) (hr : Rd w w.heap.size A l) (hm : n ≤ 140737488355328) :
    Calls Tryd.prog 32 #[.slice A n c] w (NewP w n l) := by
  cases A with
  | none =>
    have hl : l = [] := by
      rcases Nat.eq_zero_or_pos l.length with h0 | h0
      · exact List.eq_nil_of_length_eq_zero h0
      · obtain ⟨_, _, e, _⟩ := hr h0
        cases e
    subst hl
    obtain rfl : n = 0 := by simpa using hn.symm
    clear hn hr
    have heq := fun W => Lib.run_eql_slice_nil (P := Tryd.prog) W 39 5 none 0 c 0 0 Tryd.underlying39
    go_enter Tryd.func32, Tryd.ntmps32
    go_wp2
    go_ret
    exact ⟨none, 0, rfl, Own8.nil_ _ _, Below.refl _ _⟩
  | some a =>
    have hown := Own8.lit w w.heap.size [] (Nat.le_refl _) (Nat.zero_le _)
    have hrd := hr.alloc (Nat.le_refl _) (.cells (rowOf []) 5)
    have HN := hidk_ hn
    have heq := fun W => Lib.run_eql_slice_nil (P := Tryd.prog) W 39 5 (some a) n c 0 0 Tryd.underlying39
    clear hn hr
    go_enter Tryd.func32, Tryd.ntmps32
    go_wp2_with (at_builtin; refine wpList_app rfl (.tmp 5) (.tmp 6) rfl hown rfl n c rfl hrd HN.out ?_ ?_ ?_; (simp; omega); (simp); (intro A' c' w2 k1 k2 k3))
    have hp := hidk_ k1
    have hb := hidk_ (((Below.refl w.heap.size w).alloc (Nat.le_refl _) _).grown k2 (by simp) (fun k hk => by simp [Value.ownBlock] at hk; omega))
    clear k1 k2 k3 hrd
    go_wp2
    go_ret
    exact ⟨A', c', by simp, by simpa using hp.out, hb.out⟩

theorem zero_cells8 (n : Nat) : Builtin.zeroCells (Value.int .u8 0).cells n = rowOf (List.replicate n 0) := by
  apply Array.ext
  · simp [Builtin.zeroCells, rowOf, Value.cells]
  · intro i h1 h2
    simp [Builtin.zeroCells, rowOf, Value.cells, Nat.mod_one]
theorem own_grown (w : World) (n G : Nat) (hG : n ≤ G) (hm : G ≤ maxLen) : Own8 (w.alloc (.cells (rowOf (List.replicate n 0) ++ rowOf (List.replicate (G - n) 0)) 5)) w.heap.size (.slice (some ⟨w.heap.size, 0, none⟩) 0 G) [] := by
  refine ⟨rfl, .inr ⟨w.heap.size, G, _, rfl, Nat.le_refl _, heap_alloc_new w _, Nat.zero_le _, hm, ?_, rfl⟩⟩
  simp [rowOf]
  omega

/-- Parts: where each lies, its capacity, its bytes. -/
def flat (ps : List (Option Addr × Nat × List UInt8)) : List UInt8 := (ps.map (·.2.2)).flatten
theorem flat_snoc (ps : List (Option Addr × Nat × List UInt8)) (k : Nat) (h : k < ps.length) : flat (ps.take (k + 1)) = flat (ps.take k) ++ (ps[k]).2.2 := by
  unfold flat
  rw [List.take_succ_eq_append_getElem h]
  simp only [List.map_append, List.flatten_append, List.map_cons, List.map_nil, List.flatten_cons, List.flatten_nil, List.append_nil]
theorem flat_le (ps : List (Option Addr × Nat × List UInt8)) (k : Nat) : (flat (ps.take k)).length ≤ (flat ps).length := by
  have h : flat ps = flat (ps.take k) ++ flat (ps.drop k) := by
    unfold flat
    rw [← List.flatten_append, ← List.map_append, List.take_append_drop]
  rw [h, List.length_append]
  omega
/-- Block g holds the parts, one behind the other. -/
def CatAt (w : World) (B g : Nat) (ps : List (Option Addr × Nat × List UInt8)) : Prop :=
  g < B ∧ ∀ (i : Nat) (h : i < ps.length), w.cell? ⟨g, i, none⟩ = some (.slice (ps[i]).1 (ps[i]).2.2.length (ps[i]).2.1) ∧ Rd w B (ps[i]).1 (ps[i]).2.2
theorem CatAt.below {w w' : World} {B g : Nat} {ps : List (Option Addr × Nat × List UInt8)} (h : CatAt w B g ps) (hb : Below B w w') : CatAt w' B g ps :=
  ⟨h.1, fun i hi => ⟨(hb.cell (p := ⟨g, i, none⟩) h.1).trans (h.2 i hi).1, (h.2 i hi).2.below hb⟩⟩

end Go.Proofs.YtegfnlnbhhmkjaaDoor
