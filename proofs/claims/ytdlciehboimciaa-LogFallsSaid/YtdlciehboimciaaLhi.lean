/-
  log's laws: a row of records that grows leaves the log; bytes of a string.
-/
import Derived.Test.YtdlciehboimciaaLhh
namespace Go.Proofs.Ytdlciehboimciaa
set_option maxRecDepth 100000
open Go.RowKit
set_option linter.unusedVariables false
set_option linter.unusedSimpArgs false

theorem RecT.untR {w w' : World} {base : Nat} {v : Value} {L : List (List UInt8)} (h : RecT w base v L) (hg : w.grownBy w' v.ownBlock) : UnT [39] w w' :=
  UnT.of_grown hg fun k e => by
    obtain ⟨vs, h1, _⟩ := h
    obtain ⟨_, _, cs, hh⟩ := ownsRow_ty h1 k e
    exact ⟨cs, _, _, hh, by simp⟩
theorem LogV.untR {b0 : Nat} {w w' : World} {g p q n t a : Nat} {R : List (List UInt8)} {s : DkX} (h : LogV b0 w g p q n t a R s) (hu : UnT [39] w w') : LogV b0 w' g p q n t a R s :=
  ⟨Bk.unt h.lg hu (by decide), DkI.unt h.dk hu (by decide), h.on, h.sR, h.ho, h.gb⟩
theorem conv_str_own (w : World) (base : Nat) (r : List UInt8) (n : Nat) (hn : r.length = n) (hb : base ≤ w.heap.size) (hm : n ≤ 1000000) :
    ∃ c w', (convert 9 39 (.string (strOf r))).run Try.prog w = .ok (.slice (some ⟨w.heap.size, 0, none⟩) n c) w' ∧ OwnT w' base (.slice (some ⟨w.heap.size, 0, none⟩) n c) r ∧ Below w.heap.size w w' := by
  subst hn
  obtain ⟨h1, h2⟩ := OwnT.of_string w base r hb (by simp only [maxLen]; omega)
  exact ⟨_, _, h1, h2, ((Below.refl _ _).drew).alloc (by simp) _⟩
end Go.Proofs.Ytdlciehboimciaa
