/-
  slices.rotateCmpFunc at siblings.
-/
import Derived.Test.YtkhmghmilnfngaaDoorSsc
namespace Go.Proofs.YtkhmghmilnfngaaDoor
set_option maxRecDepth 100000
open Go.ChangeShapes Go.WideShapes Go.ChangeAt Go.RowKit Go.Sort Go.Shelf Go.Lib
set_option linter.unusedVariables false
set_option linter.unusedSectionVars false
set_option linter.unusedSimpArgs false

section
variable {α : Type} [Inhabited α] {enc : α → List Value} {w0 W : World} {blk off : Nat} {d0 d : Array α}
/-- Two blocks about m, of i and j elements, still to be turned about: behind that the row is T. -/
def RotJ (m z : Nat) (T : List α) (i j : Nat) (d : Array α) : Prop :=
  ∃ Pre X Y Suf, X.length = i ∧ Y.length = j ∧ 0 < i ∧ 0 < j ∧ Pre.length + i = m ∧ d.toList = Pre ++ X ++ Y ++ Suf ∧ Pre ++ Y ++ X ++ Suf = T ∧ d.size = z
set_option maxRecDepth 1000000 in
set_option maxHeartbeats 4000000 in
theorem rotate_any (R : RowK enc 2 w0 blk off d0) (h : SWK enc 2 w0 blk off d W) (hs : d.size = d0.size) (hsz : d.size < 4611686018427387904) (P U V S : List α) (a m b cap : Nat)
    (hL : d.toList = P ++ U ++ V ++ S) (ha : a = P.length) (hm : m = P.length + U.length) (hb : b = P.length + U.length + V.length) (hU : 0 < U.length) (hV : 0 < V.length) (FV : Value) :
    Calls Tryd.prog 49 #[.slice (some ⟨blk, off, none⟩) d.size cap, .int .i64 a, .int .i64 m, .int .i64 b, FV] W fun e w' =>
      e = .returned (.tuple #[]) ∧ ∃ d', SWK enc 2 w0 blk off d' w' ∧ d'.size = d.size ∧ d'.toList = P ++ V ++ U ++ S := by
  have hlen : d.size = P.length + U.length + V.length + S.length := by
    have := congrArg List.length hL
    simp only [List.length_append, Array.length_toList] at this
    omega
  obtain ⟨z, hz⟩ : ∃ z, d.size = z := ⟨_, rfl⟩
  have HZ0 := hidss_ (show z = d0.size by omega)
  have hz62 : z < 4611686018427387904 := by omega
  have hmz : m ≤ z := by omega
  have hbz : b ≤ z := by omega
  have ham : a ≤ m := by omega
  have hmb : m ≤ b := by omega
  have HR := hidss_ R
  have HS := hidss_ h
  obtain ⟨T, hT⟩ : ∃ T, P ++ V ++ U ++ S = T := ⟨_, rfl⟩
  have HJ := hidss_ (show RotJ m z T U.length V.length d from ⟨P, U, V, S, rfl, rfl, hU, hV, hm.symm, hL, hT, hz⟩)
  have w1 : IntKind.i64.wrap ((m : Int) - (a : Int)) = ((U.length : Nat) : Int) := by rw [IntKind.wrap_i64]; omega
  have w2 : IntKind.i64.wrap ((b : Int) - (m : Int)) = ((V.length : Nat) : Int) := by rw [IntKind.wrap_i64]; omega
  rw [hz, hT]
  obtain ⟨i0, hi0⟩ : ∃ i, U.length = i := ⟨_, rfl⟩
  obtain ⟨j0, hj0⟩ : ∃ j, V.length = j := ⟨_, rfl⟩
  rw [hi0] at HJ w1
  rw [hj0] at HJ w2
  clear hlen hL ha hm hb hU hV h R hs hsz hz hT hi0 hj0
  go_enter Tryd.func49, Tryd.ntmps49
  go_wp2
  clear w1 w2
  go_loopw [10, 11] (fun i j wr => ∃ (x y : Nat) (dk : Array α), i = .int .i64 x ∧ j = .int .i64 y ∧ Hid (SWK enc 2 w0 blk off dk wr) ∧ Hid (RotJ m z T x y dk)) (fun i j _ => (intOf i).toNat + (intOf j).toNat)
  case atStart => exact ⟨i0, j0, d, rfl, rfl, HS, HJ⟩
  case round =>
    obtain ⟨x, y, dk, rfl, rfl, HSk, HJk⟩ := hrel
    obtain ⟨Pre, X, Y, Suf, hX, hY, hx0, hy0, hpm, hdk, hTT, hdz⟩ := HJk.out
    have hlen : dk.size = Pre.length + X.length + Y.length + Suf.length := by
      have := congrArg List.length hdk
      simp only [List.length_append, Array.length_toList] at this
      omega
    have hsk : dk.size = d0.size := hdz.trans HZ0.out
    have hxm : x ≤ m := by omega
    have hym : m + y ≤ z := by omega
    have w3 : IntKind.i64.wrap ((m : Int) - (x : Int)) = ((Pre.length : Nat) : Int) := by rw [IntKind.wrap_i64]; omega
    obtain ⟨p, hp⟩ : ∃ p, Pre.length = p := ⟨_, rfl⟩
    by_cases hne : x = y
    case pos =>
      subst hne
      have cs := swapRange_any HR.out HSk.out hsk (by omega) Pre X [] Y Suf p m x cap (by rw [hdk]; simp) hX hY hp.symm (by simp; omega) FV
      rw [hdz] at cs
      have HT := hidss_ hTT
      have tn : ((x : Int) != (x : Int)) = false := by simp
      rw [hp] at w3
      clear HJk hX hY hpm hdk hTT hdz hlen hsk hp HJ HS
      go_wp2_with (go_at_call 56; ((with_reducible refine cs.mono ?_); clear cs; rintro e w2 ⟨rfl, d', h1, h2, h3⟩; have H1 := hidss_ h1; have H2 := hidss_ h2; have H3 := hidss_ h3; clear h1 h2 h3))
      go_end0
      exact ⟨rfl, d', H1.out, H2.out, by rw [H3.out, ← HT.out]; simp⟩
    case neg =>
      have tn : ((x : Int) != (y : Int)) = true := by simp; omega
      by_cases hgt : y < x
      · have tg : (y : Int) < (x : Int) := by omega
        have cs := swapRange_any HR.out HSk.out hsk (by omega) Pre (X.take y) (X.drop y) Y Suf p m y cap (by rw [hdk, List.append_assoc Pre (X.take y), List.take_append_drop]) (by rw [List.length_take]; omega) hY hp.symm (by rw [List.length_drop]; omega) FV
        rw [hdz] at cs
        obtain ⟨q, hq⟩ : ∃ q, x = q + y := ⟨x - y, by omega⟩
        have w4 : IntKind.i64.wrap ((x : Int) - (y : Int)) = (q : Int) := by rw [IntKind.wrap_i64]; omega
        have HM := hidss_ (show q < x by omega)
        have HN := hidss_ (show ∀ d' : Array α, d'.size = z → d'.toList = Pre ++ Y ++ X.drop y ++ X.take y ++ Suf → RotJ m z T q y d' from fun d' e1 e2 => ⟨Pre ++ Y, X.drop y, X.take y, Suf, by rw [List.length_drop]; omega, by rw [List.length_take]; omega, by omega, hy0, by rw [List.length_append]; omega, e2, by rw [← hTT, List.append_assoc (Pre ++ Y) (X.take y), List.take_append_drop], e1⟩)
        rw [hp] at w3
        clear HJk hX hY hpm hdk hTT hdz hlen hsk hp HJ HS hq
        go_wp2_with (go_at_call 56; ((with_reducible refine cs.mono ?_); clear cs; rintro e w2 ⟨rfl, d', h1, h2, h3⟩; have H1 := hidss_ h1; have H2 := hidss_ (HN.out d' h2 (by rw [h3])); clear h1 h2 h3))
        go_roundw
        case rel => exact ⟨q, y, d', by go_num, rfl, H1, H2⟩
        case measure => have := HM.out; simp [intOf]; omega
      · have tg : ¬ (y : Int) < (x : Int) := by omega
        obtain ⟨q, hq⟩ : ∃ q, y = q + x := ⟨y - x, by omega⟩
        obtain ⟨e, he⟩ : ∃ e, p + x + q = e := ⟨_, rfl⟩
        have HM := hidss_ (show q < y by omega)
        have cs := swapRange_any HR.out HSk.out hsk (by omega) Pre X (Y.take q) (Y.drop q) Suf p e x cap (by rw [hdk, List.append_assoc (Pre ++ X) (Y.take q), List.take_append_drop]) hX (by rw [List.length_drop]; omega) hp.symm (by rw [List.length_take]; omega) FV
        rw [hdz] at cs
        have w4 : IntKind.i64.wrap ((y : Int) - (x : Int)) = (q : Int) := by rw [IntKind.wrap_i64]; omega
        have w5 : IntKind.i64.wrap ((m : Int) + (y : Int) - (x : Int)) = (e : Int) := by rw [IntKind.wrap_i64]; omega
        have HN := hidss_ (show ∀ d' : Array α, d'.size = z → d'.toList = Pre ++ Y.drop q ++ Y.take q ++ X ++ Suf → RotJ m z T x q d' from fun d' e1 e2 => ⟨Pre, Y.drop q, Y.take q, X ++ Suf, by rw [List.length_drop]; omega, by rw [List.length_take]; omega, hx0, by omega, hpm, by rw [e2]; simp, by rw [← hTT, List.append_assoc Pre (Y.take q), List.take_append_drop]; simp, e1⟩)
        rw [hp] at w3
        clear HJk hX hY hpm hdk hTT hdz hlen hsk hp HJ HS hq he
        go_wp2_with (go_at_call 56; ((with_reducible refine cs.mono ?_); clear cs; rintro ee w2 ⟨rfl, d', h1, h2, h3⟩; have H1 := hidss_ h1; have H2 := hidss_ (HN.out d' h2 h3); clear h1 h2 h3))
        go_roundw
        case rel => exact ⟨x, q, d', rfl, by go_num, H1, H2⟩
        case measure => have := HM.out; simp [intOf]; omega
end
end Go.Proofs.YtkhmghmilnfngaaDoor
