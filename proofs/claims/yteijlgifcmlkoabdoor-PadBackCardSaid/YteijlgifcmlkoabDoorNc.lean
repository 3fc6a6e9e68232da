/-
  pad.Cut and the document's Cut.
-/
import Derived.Test.YteijlgifcmlkoabDoorNb
import Derived.Test.YteijlgifcmlkoabDoorG9
import Derived.Test.YteijlgifcmlkoabDoorBs
namespace Go.Proofs.YteijlgifcmlkoabDoor
open Go.ChangeShapes Go.WideShapes Go.ChangeAt Go.RowKit
set_option linter.unusedVariables false
set_option linter.unusedSimpArgs false

/-- What stands ahead in padded bytes. -/
def valB (s : List UInt8) : List UInt8 := (bytS 4000 s 0).1
def errB (s : List UInt8) : Int := (bytS 4000 s 0).2.2
/-- What they are cut to. -/
def cutB (s : List UInt8) : List UInt8 := if padB (valB s) = s then valB s else []
theorem fixS_len (n : Int) (l : List UInt8) (err : Int) : ((fixS n l err).1.length : Int) ≤ max n 0 := by
  unfold fixS
  split
  · simp; omega
  · split
    · simp; omega
    · simp [List.length_take]; omega
theorem numS_le4 (s : List UInt8) : (numS 4 4000 s 0).1 ≤ 4000 ∧ 0 ≤ (numS 4 4000 s 0).1 := by
  unfold numS
  split
  · simp
  · split
    · simp
    · split
      · simp
      · simp only
        omega
theorem valB_len (s : List UInt8) : (valB s).length ≤ 4000 := by
  have h := fixS_len (numS 4 4000 s 0).1 (numS 4 4000 s 0).2.1 (numS 4 4000 s 0).2.2
  have h2 := numS_le4 s
  have h3 : (valB s).length = (fixS (numS 4 4000 s 0).1 (numS 4 4000 s 0).2.1 (numS 4 4000 s 0).2.2).1.length := rfl
  omega
theorem fixS_err (n : Int) (l : List UInt8) (err : Int) (h : (fixS n l err).2.2 ≠ 0) : (fixS n l err).1 = [] := by
  unfold fixS at h ⊢
  split
  · rfl
  · split
    · rfl
    · rename_i h1 h2
      rw [if_neg h1, if_neg h2] at h
      exact absurd rfl h
theorem valB_err (s : List UInt8) (h : errB s ≠ 0) : valB s = [] := fixS_err _ _ _ h
theorem bytS_pad (v : List UInt8) (hv : v.length ≤ 4000) : valB (padB v) = v ∧ errB (padB v) = 0 := by
  obtain ⟨Z, hZ⟩ : ∃ Z, List.replicate (clsS v.length - 4 - v.length) (0 : UInt8) = Z := ⟨_, rfl⟩
  have hp : padB v = highB 4 v.length ++ (v ++ Z) := by rw [padB, hZ, List.append_assoc]
  have e : (highB 4 v.length).length = 4 := highB_len 4 v.length
  have h1 : (padB v).take 4 = highB 4 v.length := by rw [hp]; exact List.take_left' e
  have h2 : (padB v).drop 4 = v ++ Z := by rw [hp]; exact List.drop_left' e
  have hl : ¬ (padB v).length < 4 := by rw [hp, List.length_append, e]; omega
  have hb : beN ((padB v).take 4) = v.length := by
    rw [h1, beN_highB]
    have : (256 : Nat) ^ 4 = 4294967296 := by decide
    omega
  have hn : numS 4 4000 (padB v) 0 = ((v.length : Int), v ++ Z, 0) := by
    rw [numS_yes hl (by rw [hb]; omega), hb, h2]
  have hf : fixS (v.length : Int) (v ++ Z) 0 = (v, (v ++ Z).drop v.length, 0) := by
    by_cases h0 : v.length = 0
    · have : v = [] := List.eq_nil_of_length_eq_zero h0
      subst this
      rfl
    · rw [fixS_yes (by omega) (by simp), List.take_left' rfl]
  have hb2 : bytS 4000 (padB v) 0 = (v, (v ++ Z).drop v.length, 0) := by unfold bytS; rw [hn]; exact hf
  exact ⟨by unfold valB; rw [hb2], by unfold errB; rw [hb2]⟩
theorem cut_ok_err (s : List UInt8) (h : padB (valB s) = s) : errB s = 0 := by
  have h1 := (bytS_pad (valB s) (valB_len s)).2
  rwa [h] at h1
theorem cutB_pad (v : List UInt8) (hv : v.length ≤ 4000) : cutB (padB v) = v ∧ padB (valB (padB v)) = padB v := by
  have h := (bytS_pad v hv).1
  unfold cutB
  rw [h]
  exact ⟨if_pos rfl, rfl⟩

/-- What Cut leaves. -/
def CutP (w : World) (s : List UInt8) (code : Int) (e : Ending) (w' : World) : Prop := ∃ A m c, e = .returned (.tuple #[.slice A m c, .int .i64 code]) ∧ m = (cutB s).length ∧ Own8 w' w.heap.size (.slice A m c) (cutB s) ∧ Below w.heap.size w w'

set_option maxRecDepth 100000 in
set_option maxHeartbeats 4000000 in
theorem cut_any (w : World) (A : Option Addr) (n c : Nat) (s : List UInt8) (hn : s.length = n) (hn4 : n ≤ 1000000) (hr : Rd w w.heap.size A s) (ht : PTab w) (hg1 : 0 < w.heap.size) :
    Calls Tryd.prog 11 #[.slice A n c] w (CutP w s (if padB (valB s) = s then 0 else 2)) := by
  have c1 := of_any w A n c s hn hr (by omega)
  have VL := valB_len s
  have VF := hidp_ (show fixS (numS 4 4000 s 0).1 (numS 4 4000 s 0).2.1 (numS 4 4000 s 0).2.2 = bytS 4000 s 0 from rfl)
  have VV := hidp_ (show (bytS 4000 s 0).1 = valB s from rfl)
  have HN := hidp_ hn
  have HR := hidp_ hr
  have HT := hidp_ ht
  have hpl := padB_len (valB s) (valB_len s)
  have hSL := clsS_le (valB s).length
  have HC := hidp_ (show cutB s = if padB (valB s) = s then valB s else [] from rfl)
  obtain ⟨m, hm⟩ : ∃ m, (valB s).length = m := ⟨_, rfl⟩
  have HM := hidp_ hm
  rw [hm] at VL hpl hSL
  have hpm := fun W A c hr ht => pad_any W A m c (valB s) hm VL hr ht
  generalize clsS m = N at *
  have HPL := hidp_ hpl
  have hN : N ≤ 4096 := hSL
  clear hpl hSL hr ht hn hm
  obtain ⟨ok, hok⟩ : ∃ ok, (padB (valB s) == s) = ok := ⟨_, rfl⟩
  have HOK := hidp_ hok
  clear hok
  obtain ⟨code, hcode⟩ : ∃ code, (if padB (valB s) = s then (0 : Int) else 2) = code := ⟨_, rfl⟩
  rw [hcode]
  have HCD := hidp_ hcode
  clear hcode
  cases ok
  all_goals
    go_enter Tryd.func11, Tryd.ntmps11
    go_wp2_with (first
      | (go_at_call 17; ((with_reducible refine c1.mono ?_); clear c1; rintro e w1 ⟨g, F, rfl, hI, hF, hB⟩; have I1 := hidp_ hI; have X1 := hidp_ hB; have G1 := hidp_ (show ∀ k ∈ [g], w.heap.size ≤ k from fun k hk => by rcases List.mem_singleton.1 hk with rfl; exact (hF k hI.1).1); clear hI hF hB))
      | (go_at_call 18; have cp := inbytes_any w1 g 4000 s 0 F I1.out (by have := HN.out; omega) (by omega) (by omega); ((with_reducible refine cp.mono ?_); clear cp; rintro e w2 ⟨⟨A2, m2, c2, rfl, hm2, hO2⟩, hI2, hU2⟩; rw [VF.out, VV.out] at hm2 hO2; obtain rfl : m2 = m := hm2.trans HM.out; have O2 := hidp_ (hO2.lower X1.out.size); have X2 := hidp_ (below_untp X1.out (Nat.le_refl _) hU2 G1.out); clear hO2 hI2 hU2 hm2))
      | (go_at_call 10; have cp := hpm w2 A2 c2 O2.out.rd.1 (HT.out.below X2.out hg1); ((with_reducible refine cp.mono ?_); clear cp; rintro e w3 ⟨A3, c3, rfl, hO3, hB3⟩; have O3 := hidp_ hO3; have O23 := hidp_ (O2.out.below hB3 (Nat.le_refl _)); have X3 := hidp_ (X2.out.trans (hB3.mono X2.out.size)); clear hO3 hB3))
      | (go_at_call 19; have cp := same_any A3 A c3 c (padB (valB s)) s N n w3 HPL.out HN.out O3.out.rd.1 ((HR.out.below X3.out).more X3.out.size) (by omega) (by omega); rw [HOK.out] at cp; ((with_reducible refine cp.mono ?_); clear cp; rintro e w4 ⟨rfl, hB4⟩; have O4 := hidp_ (O23.out.below hB4 (Nat.le_refl _)); have X4 := hidp_ (X3.out.trans (hB4.mono X3.out.size)); clear hB4)))
    go_ret2
  · have hne : ¬ padB (valB s) = s := fun e => by have := HOK.out; rw [e] at this; simp at this
    obtain rfl : (2 : Int) = code := by have h2 := HCD.out; rwa [if_neg hne] at h2
    have hc : cutB s = [] := by rw [HC.out, if_neg hne]
    exact ⟨none, 0, 0, rfl, by rw [hc]; rfl, by rw [hc]; exact Own8.nil_ _ _, X4.out⟩
  · have he : padB (valB s) = s := by simpa using HOK.out
    obtain rfl : (0 : Int) = code := by have h2 := HCD.out; rwa [if_pos he] at h2
    have hc : cutB s = valB s := by rw [HC.out, if_pos he]
    exact ⟨A2, _, c2, rfl, by rw [hc, HM.out], by rw [hc]; exact O4.out, X4.out⟩
set_option maxRecDepth 100000 in
set_option maxHeartbeats 4000000 in
theorem refCut_any (w : World) (n : Nat) (s : List UInt8) (hn : s.length = n) (hn4 : n ≤ 1000000) :
    Calls Tryd.prog 13 #[.string (strOf s)] w fun e w' => e = .returned (.tuple #[.string (strOf (cutB s)), .bool (decide (padB (valB s) = s))]) ∧ Below w.heap.size w w' := by
  have O1 : RiF (w.alloc (.cells #[.string (strOf s), .int .i64 0] 49)) w.heap.size s 0 := Bk.new w _ _
  have B1 := hidp_ (show Below w.heap.size w (w.alloc (.cells #[.string (strOf s), .int .i64 0] 49)) from (Below.refl _ _).alloc (Nat.le_refl _) _)
  have cb := refbytes_any _ w.heap.size 4000 s 0 O1 (fun _ => by omega) (by omega) (by omega)
  have hE := cut_ok_err s
  rw [show (bytS 4000 s 0).1 = valB s from rfl, show (bytS 4000 s 0).2.2 = errB s from rfl] at cb
  have cp := fun W => refPad_any W (valB s).length (valB s) rfl (valB_len s)
  have HC := hidp_ (show cutB s = if padB (valB s) = s then valB s else [] from rfl)
  generalize errB s = err at *
  generalize (bytS 4000 s 0).2.1 = rest at *
  clear O1
  by_cases he : err = 0
  · subst he
    by_cases hp : padB (valB s) = s
    · have hd : decide (padB (valB s) = s) = true := decide_eq_true hp
      have hc : cutB s = valB s := by rw [HC.out, if_pos hp]
      have q := strOf_eq _ _ hp
      rw [hd, hc]
      generalize padB (valB s) = P at *
      generalize valB s = V at *
      clear hE hd hc hp
      go_enter Tryd.func13, Tryd.ntmps13
      go_wp2_with (first
        | (go_at_call 21; ((with_reducible refine cb.mono ?_); clear cb; rintro e w2 ⟨rfl, ⟨l2, hR2, -⟩, hU2⟩; have X2 := hidp_ (below_untp B1.out (Nat.le_refl _) hU2 (by simp)); have hc1 := Bk.cell hR2 1; simp only [List.getElem?_toArray, List.getElem?_cons_zero, List.getElem?_cons_succ] at hc1; clear hR2 hU2))
        | (go_at_call 12; ((with_reducible refine (cp _).mono ?_); rintro e w3 ⟨rfl, hb⟩; have X3 := hidp_ (X2.out.trans (hb.mono X2.out.size)); clear hb)))
      go_ret2
      exact ⟨rfl, X3.out⟩
    · have hd : decide (padB (valB s) = s) = false := decide_eq_false hp
      have hc : cutB s = [] := by rw [HC.out, if_neg hp]
      have q := strOf_ne _ _ hp
      rw [hd, hc]
      generalize padB (valB s) = P at *
      generalize valB s = V at *
      clear hE hd hc hp
      go_enter Tryd.func13, Tryd.ntmps13
      go_wp2_with (first
        | (go_at_call 21; ((with_reducible refine cb.mono ?_); clear cb; rintro e w2 ⟨rfl, ⟨l2, hR2, -⟩, hU2⟩; have X2 := hidp_ (below_untp B1.out (Nat.le_refl _) hU2 (by simp)); have hc1 := Bk.cell hR2 1; simp only [List.getElem?_toArray, List.getElem?_cons_zero, List.getElem?_cons_succ] at hc1; clear hR2 hU2))
        | (go_at_call 12; ((with_reducible refine (cp _).mono ?_); rintro e w3 ⟨rfl, hb⟩; have X3 := hidp_ (X2.out.trans (hb.mono X2.out.size)); clear hb)))
      go_ret2
      exact ⟨rfl, X3.out⟩
  · have hp : ¬ padB (valB s) = s := fun h => he (hE h)
    have hd : decide (padB (valB s) = s) = false := decide_eq_false hp
    have hc : cutB s = [] := by rw [HC.out, if_neg hp]
    have hne : (err == 0) = false := beq_false_of_ne he
    have hne2 : (err != 0) = true := by simpa using he
    rw [hd, hc]
    generalize valB s = V at *
    clear hE hd hc hp cp HC
    go_enter Tryd.func13, Tryd.ntmps13
    go_wp2_with (go_at_call 21; ((with_reducible refine cb.mono ?_); clear cb; rintro e w2 ⟨rfl, ⟨l2, hR2, -⟩, hU2⟩; have X2 := hidp_ (below_untp B1.out (Nat.le_refl _) hU2 (by simp)); have hc1 := Bk.cell hR2 1; simp only [List.getElem?_toArray, List.getElem?_cons_zero, List.getElem?_cons_succ] at hc1; clear hR2 hU2))
    go_ret2
    exact ⟨rfl, X2.out⟩
end Go.Proofs.YteijlgifcmlkoabDoor
