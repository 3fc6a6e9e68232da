/-
  Messages as bytes (plain mathematics): none is the beginning of another.
-/
import Derived.Test.YtnlipmcnpekifaaMsa
namespace Go.Proofs.Ytnlipmcnpekifaa
set_option maxRecDepth 100000
set_option linter.unusedVariables false
set_option linter.unusedSimpArgs false

theorem rdMg_rest {m : MgV} (h : MgOk m) (hk : K32 m) (r : List UInt8) : rdMg (mgB m ++ r) = (strip m, r, 0) := by
  obtain ⟨⟨a1, a2⟩, ⟨b1, b2⟩, ⟨c1, c2⟩, hb⟩ := h
  unfold mgB
  simp only [List.append_assoc]
  rw [rdMg_of (small_put (by omega) a2 (by omega) _) (small_put b1 b2 (by omega) _) (num_put c1 c2 (by omega) _)]
  exact rdBody_put hb hk r
theorem more_none {m : MgV} (h : MgOk m) (hk : K32 m) (b : UInt8) : endS (rdMg (mgB m ++ [b])).2.1 (rdMg (mgB m ++ [b])).2.2 ≠ 0 := by
  rw [rdMg_rest h hk]
  simp [endS]
theorem short_none {m : MgV} (h : MgOk m) (hk : K32 m) (n : Nat) (hn : n < (mgB m).length) : endS (rdMg ((mgB m).take n)).2.1 (rdMg ((mgB m).take n)).2.2 ≠ 0 := by
  intro he
  obtain ⟨m', h', hk', e⟩ := (rdMg_yes _).1 he
  have e1 : mgB m = mgB m' ++ (mgB m).drop n := by rw [← e, List.take_append_drop]
  have r1 := rdMg_rest h hk []
  rw [List.append_nil, e1, rdMg_rest h' hk'] at r1
  have e2 := congrArg (fun x : MgV × List UInt8 × Int => x.2.1.length) r1
  simp only [List.length_drop, List.length_nil] at e2
  omega
end Go.Proofs.Ytnlipmcnpekifaa
