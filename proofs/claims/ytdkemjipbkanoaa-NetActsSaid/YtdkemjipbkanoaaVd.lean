/-
  net: Take.
-/
import Derived.Test.YtdkemjipbkanoaaVc
import Derived.Test.YtdkemjipbkanoaaGn
namespace Go.Proofs.Ytdkemjipbkanoaa
open Go.RowKit
set_option linter.unusedVariables false
set_option linter.unusedSimpArgs false

theorem Own8.rdf {w : World} {base n c : Nat} {A : Option Addr} {m : List UInt8} {F : List Nat} (h : Own8 w base (.slice A n c) m) (hF : ∀ k ∈ F, k < base) : RdF w F A m := fun h0 => by
  have hrd := h.rd
  obtain ⟨b, off, e, hb, hc⟩ := hrd.1 h0
  subst e
  have := (h.form.choose_spec.choose_spec.2.2 b rfl).1
  exact ⟨b, off, rfl, fun hm => by have := hF b hm; omega, hb, hc⟩
/-- What a message that was taken leaves of the boxes. -/
def takeL (L : List (List (List UInt8))) (k i : Nat) : List (List (List UInt8)) := (L.set (k * 2) ((L.getD (k * 2) []).eraseIdx i)).set (k * 2 + 1) (L.getD (k * 2 + 1) [] ++ [(L.getD (k * 2) []).getD i []])
/-- A message that was taken. -/
def TakeP (w : World) (p q n : Nat) (L : List (List (List UInt8))) (F : List Nat) (r : Nat) (m : List UInt8) (e : Ending) (w' : World) : Prop :=
  ∃ A c F', e = .returned (.tuple #[.slice A r c, .int .i64 0]) ∧ Own8 w' w.heap.size (.slice A r c) m ∧ RdF w' F' A m ∧ NetF w' p q n L F' ∧ Grew w F F' ∧ Untouched F w w'

set_option maxRecDepth 100000 in
set_option maxHeartbeats 8000000 in
theorem take_yes {w : World} {p q n : Nat} {L : List (List (List UInt8))} {F : List Nat} (h : NetF w p q n L F) (k : Nat) (hk : k < n) (i : Nat) (hi : i < (L.getD (k * 2) []).length) (hl6 : (L.getD (k * 2) []).length ≤ 1000000) (ht6 : (L.getD (k * 2 + 1) []).length + 1 ≤ 1000000) (r : Nat) (hr0 : ((L.getD (k * 2) []).getD i []).length = r) (hr7 : r ≤ 140737488355328) :
    Calls Try.prog 7 #[.pointer (some ⟨p, 0, none⟩), .int .i64 (k : Int), .int .i64 (i : Int)] w (TakeP w p q n (takeL L k i) F r ((L.getD (k * 2) []).getD i [])) := by
  obtain ⟨A, c, hc, hrow, hcl, hcm⟩ := h.at_ (k * 2) (by omega)
  have ci := inbox_yes h k hk
  obtain ⟨l, hl⟩ : ∃ l, L.getD (k * 2) [] = l := ⟨_, rfl⟩
  unfold takeL
  rw [hl] at hc hrow hcl hi hl6 hr0 ⊢
  obtain ⟨m, hm⟩ : ∃ m, l.length = m + 1 := ⟨l.length - 1, by omega⟩
  rw [hm] at hc hrow hcl hi hl6
  obtain ⟨g, u, rfl, hcu, hbu, hgl⟩ := hrow.cell i (by rw [hm]; exact hi)
  obtain ⟨Au, cu, rfl, _, _, _⟩ := hbu.rd
  rw [hr0] at hcu hbu
  have ch := has_any (w := w) q (k * 2) _ _ _ hc (i : Int)
  have d1 : decide (0 ≤ (i : Int)) = true := decide_eq_true (by omega)
  have d2 : decide ((i : Int) < ((m + 1 : Nat) : Int)) = true := decide_eq_true (by omega)
  rw [d1, d2] at ch
  have cd := delete_any hrow h.hF hm hcl (by omega) i hi
  have e1 : IntKind.i64.wrap ((i : Int) + 1) = (i : Int) + 1 := IntWalk.i64_in _ (by omega)
  have t0 : (0 : Int) ≤ (i : Int) := by omega
  have tn : (i : Int) < ((m + 1 : Nat) : Int) := by omega
  obtain ⟨msg, hmsg⟩ : ∃ x, l.getD i [] = x := ⟨_, rfl⟩
  rw [hmsg] at hr0 hbu ⊢
  obtain ⟨t, ht⟩ : ∃ t, L.getD (k * 2 + 1) [] = t := ⟨_, rfl⟩
  rw [ht] at ht6 ⊢
  obtain ⟨b, hb⟩ : ∃ b, t.length = b := ⟨_, rfl⟩
  rw [hb] at ht6
  have HT := hidv_ ht
  have HBL := hidv_ hb
  have HH := hidv_ h
  have HC := hidv_ hc
  have HB := hidv_ hbu
  have HM := hidv_ hm
  have HR0 := hidv_ hr0
  have HT6 := hidv_ ht6
  clear h hbu hm hr0 hmsg hl hrow d2 ht6 ht hb
  go_enter Try.func7, Try.ntmps7
  go_upto_region 8 with (first
    | (go_at_call 19; ((with_reducible refine ci.mono ?_); clear ci; rintro e w' ⟨rfl, rfl⟩))
    | (go_at_call 20; ((with_reducible refine ch.mono ?_); clear ch; rintro e w' ⟨rfl, rfl⟩))
    | (go_at_call 21; ((with_reducible refine cd.mono ?_); clear cd; rintro e w1 ⟨rfl, h1, h2⟩; obtain ⟨hput, hpc, hpf⟩ := HH.out.put (k * 2) (by omega) HC.out h2 (F' := F) (fun k hk => hk) (fun k hk => Nat.lt_of_lt_of_le (HH.out.hF k hk) h2.size) h1 (.inr (.inl rfl)); have HP1 := hidv_ hput; clear hput h1 h2)))
  clear hpc hpf hc hcu d1 e1 t0 tn
  obtain ⟨w2, hw2⟩ : ∃ x, w1.setCell ⟨q, k * 2, none⟩ (.slice (some ⟨g, 0, none⟩) m c) = x := ⟨_, rfl⟩
  rw [hw2] at HP1 ⊢
  clear hw2
  obtain ⟨A2, c2, hc2, hr2, hl2, hm2⟩ := HP1.out.1.at_ (k * 2 + 1) (by omega)
  rw [show (L.set (k * 2) (l.eraseIdx i)).getD (k * 2 + 1) [] = L.getD (k * 2 + 1) [] by simp [List.getD], HT.out, HBL.out] at hc2 hr2 hl2
  obtain ⟨wa, hwa⟩ : ∃ x, w2.alloc (.cells #[.slice Au r cu] 23) = x := ⟨_, rfl⟩
  obtain ⟨a1, a2, a3, a4, a5, a6, a7⟩ := HP1.out.1.laid (by omega) hc2 hr2 (HB.out.keep HP1.out.2.2 (fun k hk => hk)) hwa
  have HA1 := hidv_ a1
  have HA2 := hidv_ a2
  have HA3 := hidv_ a3
  have HA4 := hidv_ a4
  have HA5 := hidv_ a5
  have HA6 := hidv_ a6
  have HA7 := hidv_ a7
  clear a1 a2 a3 a4 a5 a6 a7 hr2 hl2
  go_upto_region 9 with (at_builtin; refine wpList_appF rfl (.tmp 41) (.tmp 43) rfl HA4.out HA2.out.hF rfl w2.heap.size 1 rfl (.slice Au r cu) rfl HA6.out HA5.out b HBL.out HT6.out ?_; intro A' c' w3 k1 k2 k3 k4; obtain ⟨hput, hpc, hpf⟩ := HA2.out.put (k * 2 + 1) (by omega) HA3.out k2 (F' := since F wa w3) (fun k hk => mem_since.2 (.inl hk)) (since_lt HA2.out.hF k2.size) k1 (k4.elim (fun e => .inr (.inl e)) (fun e => .inr (.inr ⟨_, e, Nat.le_refl _⟩))); have HP2 := hidv_ hput; clear hput k1 k2 k3 k4)
  clear hpc hpf
  obtain ⟨w4, hw4⟩ : ∃ x, w3.setCell ⟨q, k * 2 + 1, none⟩ (.slice A' (b + 1) c') = x := ⟨_, rfl⟩
  rw [hw4] at HP2 ⊢
  clear hw4 hwa hc2
  have cc := clone_any Au r cu msg w4 HR0.out (HA5.out.keep HP2.out.2.2 (F' := F) (fun k hk => hk)).rd2.2 hr7
  go_wp2_with (go_at_call 22; ((with_reducible refine cc.mono ?_); clear cc; rintro e w5 ⟨A5, c5, rfl, ho, hb⟩; have HO5 := hidv_ ho; have HB5 := hidv_ hb; clear ho hb))
  go_ret2
  have u1 := HP1.out.2.1
  have u2 := (Untouched.of_below (F := F) HA1.out).trans (Grew.refl _ _) HP2.out.2.1
  have g3 : Grew w F (since F wa w3) := fun k hk => (grew_since F wa w3 k hk).imp id (fun h => Nat.le_trans (Nat.le_trans u1.size HA1.out.size) h)
  have u12 := u1.trans (Grew.refl _ _) u2
  exact ⟨A5, c5, since F wa w3, rfl, HO5.out.lower u12.size, HO5.out.rdf HP2.out.1.hF, HP2.out.1.below HB5.out, g3, u12.trans (Grew.refl _ _) (Untouched.of_below HB5.out)⟩
end Go.Proofs.Ytdkemjipbkanoaa
