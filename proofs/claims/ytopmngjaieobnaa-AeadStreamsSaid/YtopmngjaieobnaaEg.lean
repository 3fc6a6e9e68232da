/-
  Contracts: aead.Open and the reference's, of all bytes at once.
-/
import Derived.Test.YtopmngjaieobnaaEf
namespace Go.Proofs.Ytopmngjaieobnaa
open Go.RowKit
set_option linter.unusedVariables false

/-- Why it isn't opened, or 0; what it is opened to. -/
def openZ (key nonce wi s : List UInt8) : Int := if s.length < 16 then 2 else if tagB key nonce wi (s.take (s.length - 16)) = s.drop (s.length - 16) then 0 else 6
def openB7 (key nonce wi s : List UInt8) : Bool := openZ key nonce wi s == 0
def openD7 (key nonce wi s : List UInt8) : List UInt8 := if openB7 key nonce wi s then streamB key nonce 1 (s.take (s.length - 16)) else []
theorem openZ_cases (key nonce wi s : List UInt8) : (openZ key nonce wi s = 2 ∧ openB7 key nonce wi s = false ∧ s.length < 16) ∨ (openZ key nonce wi s = 6 ∧ openB7 key nonce wi s = false ∧ 16 ≤ s.length) ∨ (openZ key nonce wi s = 0 ∧ openB7 key nonce wi s = true ∧ 16 ≤ s.length) := by
  unfold openB7 openZ
  split
  · exact .inl ⟨rfl, rfl, by assumption⟩
  · split
    · exact .inr (.inr ⟨rfl, rfl, by omega⟩)
    · exact .inr (.inl ⟨rfl, rfl, by omega⟩)
theorem openD_len (key nonce wi s : List UInt8) : (openD7 key nonce wi s).length ≤ s.length := by
  unfold openD7
  split
  · rw [streamB_len, List.length_take]; omega
  · simp
def AoP (w : World) (z : Int) (n : Nat) (l : List UInt8) (e : Ending) (w' : World) : Prop :=
  ∃ A c, e = .returned (.tuple #[.slice A n c, .int .i64 z]) ∧ Rd w' w'.heap.size A l ∧ n ≤ c ∧ c ≤ 9223372036854775807 ∧ Below w.heap.size w w'
theorem aopen_any (key nonce : List UInt8) (Aw : Option Addr) (nw cw : Nat) (wi : List UInt8) (As : Option Addr) (ns cs : Nat) (s : List UInt8) (w : World) (hk : key.length = 32) (hn : nonce.length = 12)
    (hw : wi.length = nw) (hs : s.length = ns) (hrw : Rd w w.heap.size Aw wi) (hrs : Rd w w.heap.size As s) (hcs : ns ≤ cs) (hcm : cs ≤ 9223372036854775807) (hmw : nw ≤ 1000000) (hmm : ns ≤ 1000000) :
    Calls Try.prog 18 #[.agg (rowOf key), .agg (rowOf nonce), .slice Aw nw cw, .slice As ns cs] w (AoP w (openZ key nonce wi s) (openD7 key nonce wi s).length (openD7 key nonce wi s)) := by
  by_cases h16 : ns < 16
  · have e1 : openZ key nonce wi s = 2 := by unfold openZ; rw [if_pos (by omega)]
    have e2 : openD7 key nonce wi s = [] := by unfold openD7 openB7; rw [e1]; rfl
    rw [e1, e2]
    refine (aopen_short key nonce Aw nw cw As ns cs w h16).mono fun e w' hh => ?_
    exact ⟨none, 0, hh.1, Rd.nil, Nat.le_refl _, Nat.zero_le _, hh.2⟩
  · obtain ⟨m, rfl⟩ : ∃ m, ns = m + 16 := ⟨ns - 16, by omega⟩
    have em : s.length - 16 = m := by omega
    by_cases ho : tagB key nonce wi (s.take m) = s.drop m
    · have e1 : openZ key nonce wi s = 0 := by unfold openZ; rw [if_neg (by omega), em, if_pos ho]
      have e2 : openD7 key nonce wi s = streamB key nonce 1 (s.take m) := by unfold openD7 openB7; rw [e1, em]; rfl
      rw [e1, e2, streamB_len, List.length_take, hs, Nat.min_eq_left (by omega)]
      refine (aopen_yes key nonce Aw nw cw wi As m cs s w hk hn hw hs hrw hrs hcs hcm hmw (by omega) ho).mono fun e w' hh => ?_
      obtain ⟨A, c, he, ho', hb⟩ := hh
      exact ⟨A, c, he, ho'.rd.1, ho'.cap.1, ho'.cap.2, hb⟩
    · have e1 : openZ key nonce wi s = 6 := by unfold openZ; rw [if_neg (by omega), em, if_neg ho]
      have e2 : openD7 key nonce wi s = [] := by unfold openD7 openB7; rw [e1]; rfl
      rw [e1, e2]
      refine (aopen_no key nonce Aw nw cw wi As m cs s w hk hn hw hs hrw hrs hcs hcm hmw (by omega) ho).mono fun e w' hh => ?_
      exact ⟨none, 0, hh.1, Rd.nil, Nat.le_refl _, Nat.zero_le _, hh.2⟩
theorem refAOpen_any (key nonce wi s : List UInt8) (nw ns : Nat) (w : World) (hk : key.length = 32) (hn : nonce.length = 12) (hw : wi.length = nw) (hs : s.length = ns) (hmw : nw ≤ 1000000) (hmm : ns ≤ 1000000) :
    Calls Try.prog 21 #[.string (strOf key), .string (strOf nonce), .string (strOf wi), .string (strOf s)] w fun e w' => e = .returned (.tuple #[.string (strOf (openD7 key nonce wi s)), .bool (openB7 key nonce wi s)]) ∧ Below w.heap.size w w' := by
  by_cases h16 : ns < 16
  · have e1 : openZ key nonce wi s = 2 := by unfold openZ; rw [if_pos (by omega)]
    have e3 : openB7 key nonce wi s = false := by unfold openB7; rw [e1]; rfl
    have e2 : openD7 key nonce wi s = [] := by unfold openD7; rw [e3]; rfl
    rw [e2, e3]
    exact refAOpen_short key nonce wi s w (by omega)
  · obtain ⟨m, rfl⟩ : ∃ m, ns = m + 16 := ⟨ns - 16, by omega⟩
    have em : s.length - 16 = m := by omega
    by_cases ho : tagB key nonce wi (s.take m) = s.drop m
    · have e1 : openZ key nonce wi s = 0 := by unfold openZ; rw [if_neg (by omega), em, if_pos ho]
      have e3 : openB7 key nonce wi s = true := by unfold openB7; rw [e1]; rfl
      have e2 : openD7 key nonce wi s = streamB key nonce 1 (s.take m) := by unfold openD7; rw [e3, em]; rfl
      rw [e2, e3]
      exact refAOpen_yes key nonce wi s nw m w hk hn hw hs hmw (by omega) ho
    · have e1 : openZ key nonce wi s = 6 := by unfold openZ; rw [if_neg (by omega), em, if_neg ho]
      have e3 : openB7 key nonce wi s = false := by unfold openB7; rw [e1]; rfl
      have e2 : openD7 key nonce wi s = [] := by unfold openD7; rw [e3]; rfl
      rw [e2, e3]
      exact refAOpen_no key nonce wi s nw m w hk hn hw hs hmw (by omega) ho
end Go.Proofs.Ytopmngjaieobnaa
