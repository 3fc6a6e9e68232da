/-
  Each act, of a net and of the reference's: told the same.
-/
import Derived.Test.YtdkemjipbkanoaaVs
namespace Go.Proofs.Ytdkemjipbkanoaa
open Go.RowKit
set_option linter.unusedVariables false
set_option linter.unusedSimpArgs false

section
variable {w0 w w' : World} {X Y : Nat → Prop} {p q n rp rq rs t : Nat} {L L' Z Z' : List (List (List UInt8))}
theorem TwN.wide (h : TwN w0 w X p q n L rp rq rs Z) (hY : ∀ k, Y k → X k) : TwN w0 w Y p q n L rp rq rs Z := by
  obtain ⟨F, G, h⟩ := h
  exact ⟨F, G, h.net, h.ref, h.hi, h.dj, fun k hk => h.av k (hY k hk)⟩
theorem no_bytes {A : Option Addr} {b : Nat} : ¬ BytesAt A 0 b := fun h => Nat.lt_irrefl 0 h.1
theorem both_take (h : TwN w0 w X p q n L rp rq rs Z) (hr : RelZ n t L Z) (ht : t ≤ 1000) (z y : Int) :
    Calls Try.prog 7 #[.pointer (some ⟨p, 0, none⟩), .int .i64 z, .int .i64 y] w fun e w' => ∃ A r c m ez L', e = .returned (.tuple #[.slice A r c, .int .i64 ez]) ∧ m.length = r ∧ r ≤ 30 ∧ Rd w' w'.heap.size A m ∧ TwN w0 w' (fun b => X b ∨ BytesAt A r b) p q n L' rp rq rs Z ∧ KeepX X w w' ∧
      ∀ (w2 : World) (X2 : Nat → Prop), TwN w0 w2 X2 p q n L' rp rq rs Z → Calls Try.prog 17 #[.pointer (some ⟨rp, 0, none⟩), .int .i64 z, .int .i64 y] w2 fun e w3 => e = .returned (.tuple #[.string (strOf m), .int .i64 ez]) ∧ ∃ Z', TwN w0 w3 X2 p q n L' rp rq rs Z' ∧ RelZ n (t + 1) L' Z' ∧ KeepX X2 w2 w3 := by
  by_cases hz : z < 0 ∨ (n : Int) ≤ z
  · obtain ⟨F, G, hf⟩ := h
    refine (take_no z (inbox_no hf.net.net z hz) y).mono fun e w' ⟨he, hw⟩ => ?_
    subst hw
    refine ⟨none, 0, 0, [], 1, L, he, rfl, by omega, Rd.nil, TwN.wide ⟨F, G, hf⟩ (fun k hk => hk.elim id fun h => (no_bytes h).elim), KeepX.refl _ _, fun w2 X2 h2 => ?_⟩
    obtain ⟨F2, G2, h2⟩ := h2
    refine (rtake_no h2.ref z hz y).mono fun e w3 ⟨he, hw⟩ => ?_
    subst hw
    exact ⟨he, Z, ⟨F2, G2, h2⟩, hr.more (by omega), KeepX.refl _ _⟩
  · obtain ⟨k, rfl⟩ : ∃ k : Nat, z = (k : Int) := ⟨z.toNat, by omega⟩
    have hk : k < n := by omega
    have hrel := hr.rel k hk
    have hcap := hr.cap k hk
    by_cases hy : y < 0 ∨ ((L.getD (k * 2) []).length : Int) ≤ y
    · obtain ⟨F, G, hf⟩ := h
      refine (take_miss hf.net.net k hk y hy).mono fun e w' ⟨he, hw⟩ => ?_
      subst hw
      refine ⟨none, 0, 0, [], 7, L, he, rfl, by omega, Rd.nil, TwN.wide ⟨F, G, hf⟩ (fun k hk => hk.elim id fun h => (no_bytes h).elim), KeepX.refl _ _, fun w2 X2 h2 => ?_⟩
      obtain ⟨F2, G2, h2⟩ := h2
      refine (rtake_miss h2.ref k hk y (by rw [hrel.1]; exact hy)).mono fun e w3 ⟨he, hw⟩ => ?_
      subst hw
      exact ⟨he, Z, ⟨F2, G2, h2⟩, hr.more (by omega), KeepX.refl _ _⟩
    · obtain ⟨i, rfl⟩ : ∃ i : Nat, y = (i : Int) := ⟨y.toNat, by omega⟩
      have hi : i < (L.getD (k * 2) []).length := by omega
      have hs := hr.short _ _ (getD_mem hi)
      refine (two_take h k hk i hi (by omega) (by omega) _ rfl (by omega)).mono fun e w' ⟨A, c, he, h1, h2, h3⟩ => ?_
      refine ⟨A, _, c, _, 0, _, he, rfl, hs, h3.rd.1, h1, h2, fun w2 X2 h2 => ?_⟩
      have c := two_rtake h2 k hk i (by rw [hrel.1]; exact hi) (by rw [hrel.1]; omega) (by rw [hrel.2]; omega)
      rw [hrel.1] at c
      exact c.mono fun e w3 ⟨he, h1, h2⟩ => ⟨he, _, h1, hr.take k hk i hi, h2⟩
theorem both_copy (h : TwN w0 w X p q n L rp rq rs Z) (hr : RelZ n t L Z) (z y : Int) : ∃ (ez : Int) (L' Z' : List (List (List UInt8))), RelZ n t L' Z' ∧
    (∀ (w1 : World) (X1 : Nat → Prop) (Z1 : List (List (List UInt8))), TwN w0 w1 X1 p q n L rp rq rs Z1 → Calls Try.prog 11 #[.pointer (some ⟨p, 0, none⟩), .int .i64 z, .int .i64 y] w1 fun e w' => e = .returned (.int .i64 ez) ∧ TwN w0 w' X1 p q n L' rp rq rs Z1 ∧ KeepX X1 w1 w') ∧
    (∀ (w1 : World) (X1 : Nat → Prop) (L1 : List (List (List UInt8))), TwN w0 w1 X1 p q n L1 rp rq rs Z → Calls Try.prog 18 #[.pointer (some ⟨rp, 0, none⟩), .int .i64 z, .int .i64 y] w1 fun e w' => e = .returned (.int .i64 ez) ∧ TwN w0 w' X1 p q n L1 rp rq rs Z' ∧ KeepX X1 w1 w') := by
  by_cases hz : z < 0 ∨ (n : Int) ≤ z
  · refine ⟨1, L, Z, hr, fun w1 X1 Z1 ⟨F, G, hf⟩ => ?_, fun w1 X1 L1 ⟨F, G, hf⟩ => ?_⟩
    · refine (copy_no z (inbox_no hf.net.net z hz) y).mono fun e w' ⟨he, hw⟩ => ?_
      subst hw
      exact ⟨he, ⟨F, G, hf⟩, KeepX.refl _ _⟩
    · refine (rcopy_no hf.ref z hz y).mono fun e w' ⟨he, hw⟩ => ?_
      subst hw
      exact ⟨he, ⟨F, G, hf⟩, KeepX.refl _ _⟩
  · obtain ⟨k, rfl⟩ : ∃ k : Nat, z = (k : Int) := ⟨z.toNat, by omega⟩
    have hk : k < n := by omega
    have hrel := hr.rel k hk
    have hcap := hr.cap k hk
    by_cases hy : y < 0 ∨ ((L.getD (k * 2) []).length : Int) ≤ y
    · refine ⟨7, L, Z, hr, fun w1 X1 Z1 ⟨F, G, hf⟩ => ?_, fun w1 X1 L1 ⟨F, G, hf⟩ => ?_⟩
      · refine (copy_miss hf.net.net k hk y hy).mono fun e w' ⟨he, hw⟩ => ?_
        subst hw
        exact ⟨he, ⟨F, G, hf⟩, KeepX.refl _ _⟩
      · refine (rcopy_miss hf.ref k hk y (by rw [hrel.1]; exact hy)).mono fun e w' ⟨he, hw⟩ => ?_
        subst hw
        exact ⟨he, ⟨F, G, hf⟩, KeepX.refl _ _⟩
    · obtain ⟨i, rfl⟩ : ∃ i : Nat, y = (i : Int) := ⟨y.toNat, by omega⟩
      have hi : i < (L.getD (k * 2) []).length := by omega
      refine ⟨addE L k, _, _, hr.send k hk _ (hr.short _ _ (getD_mem hi)), fun w1 X1 Z1 h1 => two_copy h1 k hk i hi (by omega), fun w1 X1 L1 h1 => ?_⟩
      have c := two_rcopy h1 k hk i (by rw [hrel.1]; exact hi)
      rw [hrel.1, hr.errs k hk] at c
      exact c
theorem both_send (h : TwN w0 w X p q n L rp rq rs Z) (hr : RelZ n t L Z) (z : Int) (m : List UInt8) (r : Nat) (hm : m.length = r) (h30 : r ≤ 30) : ∃ (ez : Int) (L' Z' : List (List (List UInt8))), RelZ n t L' Z' ∧
    (∀ (w1 : World) (X1 : Nat → Prop) (Z1 : List (List (List UInt8))) (A : Option Addr) (c : Nat), TwN w0 w1 X1 p q n L rp rq rs Z1 → Rd w1 w1.heap.size A m → Calls Try.prog 10 #[.pointer (some ⟨p, 0, none⟩), .int .i64 z, .slice A r c] w1 fun e w' => e = .returned (.int .i64 ez) ∧ TwN w0 w' X1 p q n L' rp rq rs Z1 ∧ KeepX X1 w1 w') ∧
    (∀ (w1 : World) (X1 : Nat → Prop) (L1 : List (List (List UInt8))), TwN w0 w1 X1 p q n L1 rp rq rs Z → Calls Try.prog 16 #[.pointer (some ⟨rp, 0, none⟩), .int .i64 z, .string (strOf m)] w1 fun e w' => e = .returned (.int .i64 ez) ∧ TwN w0 w' X1 p q n L1 rp rq rs Z' ∧ KeepX X1 w1 w') := by
  by_cases hz : z < 0 ∨ (n : Int) ≤ z
  · refine ⟨1, L, Z, hr, fun w1 X1 Z1 A c ⟨F, G, hf⟩ hrd => ?_, fun w1 X1 L1 ⟨F, G, hf⟩ => ?_⟩
    · refine (send_no z (inbox_no hf.net.net z hz) _).mono fun e w' ⟨he, hw⟩ => ?_
      subst hw
      exact ⟨he, ⟨F, G, hf⟩, KeepX.refl _ _⟩
    · refine (rsend_no hf.ref z hz _).mono fun e w' ⟨he, hw⟩ => ?_
      subst hw
      exact ⟨he, ⟨F, G, hf⟩, KeepX.refl _ _⟩
  · obtain ⟨k, rfl⟩ : ∃ k : Nat, z = (k : Int) := ⟨z.toNat, by omega⟩
    have hk : k < n := by omega
    refine ⟨addE L k, _, _, hr.send k hk m (by omega), fun w1 X1 Z1 A c h1 hrd => two_send h1 k hk A r c m hm hrd (by omega), fun w1 X1 L1 h1 => ?_⟩
    have c := two_rsend h1 k hk m
    rw [hr.errs k hk] at c
    exact c
/-- Both acts of one line, in whichever order: what holds between. -/
structure CpJ (w0 : World) (X : Nat → Prop) (p q n : Nat) (L L' : List (List (List UInt8))) (rp rq rs : Nat) (Z Z' : List (List (List UInt8))) (iN iR : Nat) (bx : World → Prop) (D : Nat → Bool) (W : World) : Prop where
  tw : TwN w0 W X p q n (if D iN = true then L' else L) rp rq rs (if D iR = true then Z' else Z)
  bk : bx W
theorem CpJ.same {iN iR : Nat} {bx : World → Prop} {D : Nat → Bool} {W : World} (h : CpJ w0 X p q n L L' rp rq rs Z Z' iN iR bx D W) (i : Nat) (hi : iN ≠ i ∧ iR ≠ i) : CpJ w0 X p q n L L' rp rq rs Z Z' iN iR bx (fun j => decide (j = i) || D j) W := by
  refine ⟨?_, h.bk⟩
  simp only [orf_ne (L := D) hi.1, orf_ne (L := D) hi.2]
  exact h.tw
theorem CpJ.before_net {iN iR : Nat} {bx : World → Prop} {D : Nat → Bool} {W : World} (h : CpJ w0 X p q n L L' rp rq rs Z Z' iN iR bx D W) (hL : D iN = false) : TwN w0 W X p q n L rp rq rs (if D iR = true then Z' else Z) := by
  have := h.tw
  rw [hL, if_neg (by decide)] at this
  exact this
theorem CpJ.before_ref {iN iR : Nat} {bx : World → Prop} {D : Nat → Bool} {W : World} (h : CpJ w0 X p q n L L' rp rq rs Z Z' iN iR bx D W) (hL : D iR = false) : TwN w0 W X p q n (if D iN = true then L' else L) rp rq rs Z := by
  have := h.tw
  rw [hL, if_neg (show ¬ (false = true) by decide)] at this
  exact this
theorem CpJ.net {iN iR : Nat} {bx : World → Prop} {D : Nat → Bool} {W' : World} (hne : iR ≠ iN) (h : TwN w0 W' X p q n L' rp rq rs (if D iR = true then Z' else Z)) (hb : bx W') : CpJ w0 X p q n L L' rp rq rs Z Z' iN iR bx (fun j => decide (j = iN) || D j) W' := by
  refine ⟨?_, hb⟩
  simp only [orf_ne (L := D) hne, show (decide (iN = iN) || D iN) = true by simp, if_true]
  exact h
theorem CpJ.ref {iN iR : Nat} {bx : World → Prop} {D : Nat → Bool} {W' : World} (hne : iN ≠ iR) (h : TwN w0 W' X p q n (if D iN = true then L' else L) rp rq rs Z') (hb : bx W') : CpJ w0 X p q n L L' rp rq rs Z Z' iN iR bx (fun j => decide (j = iR) || D j) W' := by
  refine ⟨?_, hb⟩
  simp only [orf_ne (L := D) hne, show (decide (iR = iR) || D iR) = true by simp, if_true]
  exact h
theorem CpJ.both {iN iR : Nat} {bx : World → Prop} {D : Nat → Bool} {W : World} (h : CpJ w0 X p q n L L' rp rq rs Z Z' iN iR bx D W) (hN : D iN = true) (hR : D iR = true) : TwN w0 W X p q n L' rp rq rs Z' := by
  have := h.tw
  rw [if_pos hN, if_pos hR] at this
  exact this
end
/-- What the operations of 'n.Copy(..) != w.DocCopy(..)' leave. -/
def CpR (p rp B : Nat) (num k ez : Int) : Nat → Value → Prop
  | 0, v => v = .pointer (some ⟨p, 0, none⟩)
  | 1, v => v = .pointer (some ⟨B, 1, none⟩)
  | 2, v => v = .int .i64 num
  | 3, v => v = .pointer (some ⟨B, 2, none⟩)
  | 4, v => v = .int .i64 k
  | 5, v => v = .int .i64 ez
  | 6, v => v = .pointer (some ⟨rp, 0, none⟩)
  | 7, v => v = .pointer (some ⟨B, 1, none⟩)
  | 8, v => v = .int .i64 num
  | 9, v => v = .pointer (some ⟨B, 2, none⟩)
  | 10, v => v = .int .i64 k
  | 11, v => v = .int .i64 ez
  | 12, v => v = .bool false
  | _, _ => True
/-- The same of 'n.Send(..) != w.DocSend(..)'. -/
def SnR (p rp B : Nat) (num ez : Int) (A : Option Addr) (r c : Nat) (m : List UInt8) : Nat → Value → Prop
  | 0, v => v = .pointer (some ⟨p, 0, none⟩)
  | 1, v => v = .pointer (some ⟨B, 1, none⟩)
  | 2, v => v = .int .i64 num
  | 3, v => v = .slice A r c
  | 4, v => v = .int .i64 ez
  | 5, v => v = .pointer (some ⟨rp, 0, none⟩)
  | 6, v => v = .pointer (some ⟨B, 1, none⟩)
  | 7, v => v = .int .i64 num
  | 8, v => v = .slice A r c
  | 9, v => v = .string (strOf m)
  | 10, v => v = .int .i64 ez
  | 11, v => v = .bool false
  | _, _ => True
/-- The reference's box is emptied by the law itself. -/
theorem TwN.ref_clear {w0 w : World} {X : Nat → Prop} {p q n rp rq rs : Nat} {L Z : List (List (List UInt8))} (h : TwN w0 w X p q n L rp rq rs Z) (k : Nat) (hk : k < n) :
    (TwN w0 (w.setCell ⟨rq, k, none⟩ (.slice none 0 0)) X p q n L rp rq rs (Z.set k [])) ∧ (∃ v, w.cell? ⟨rq, k, none⟩ = some v) ∧ w.frozen? ⟨rq, k, none⟩ = false ∧ Bk w rp 49 #[.slice (some ⟨rq, 0, none⟩) n n, .slice (some ⟨rs, 0, none⟩) n n] := by
  obtain ⟨F, G, h⟩ := h
  obtain ⟨A, c, hc, hr, _⟩ := h.ref.at_ k (by omega)
  obtain ⟨⟨f1, f2⟩, hcc, hfz⟩ := h.ref.put k (by omega) hc (World.grownBy.refl _ _) (F' := G) (fun k hk => hk) h.ref.hF (RowS.nil_ w G) (.inl rfl)
  rw [loc_lo hk] at f1 f2 hcc hfz
  exact ⟨(h.ref_act f1 (Grew.refl _ _) f2).1, ⟨_, hcc⟩, hfz, h.ref.bp⟩
end Go.Proofs.Ytdkemjipbkanoaa
