/-
  For MsgWrites (plain mathematics): what a kind has alone is tame, too.
-/
import Derived.Test.YtnlipmcnpekifaaMtq
import Derived.Test.YtnlipmcnpekifaaMov
namespace Go.Proofs.Ytnlipmcnpekifaa
set_option maxRecDepth 100000
set_option linter.unusedVariables false
set_option linter.unusedSimpArgs false

theorem strip_tame {m : MgV} (h : Tame m) : Tame (strip m) := by
  obtain ⟨⟨a1, a2, a3⟩, b, c, d, e, f⟩ := h
  have hz := zbytes_len 32
  unfold strip
  repeat' split
  all_goals exact ⟨⟨by first | exact a1 | exact hz, by first | exact a2 | (intro x hx; cases hx), by first | exact a3 | (intro x hx; cases hx)⟩, by first | exact b | exact Nat.zero_le _, by first | exact c | exact Nat.zero_le _, by first | exact d | exact Nat.zero_le _, by first | exact e | exact Nat.zero_le _, by first | exact f | (intro x hx; cases hx)⟩
theorem tm_bd {m : MgV} (h : MgBd m) : MgBd (tm m) := ⟨h.kind, h.frm, h.ask, h.err, h.for_, h.level, fun x hx => h.ats x (List.mem_of_mem_take hx)⟩
end Go.Proofs.Ytnlipmcnpekifaa
