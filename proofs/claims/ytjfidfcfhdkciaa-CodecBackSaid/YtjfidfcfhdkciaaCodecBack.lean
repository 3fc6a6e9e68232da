/-
  Proved: for all rows of parts CodecBack answers true: what is put is taken again, part by part. No condition.
-/
import Derived.Test.YtjfidfcfhdkciaaGh
import Derived.Test.YtjfidfcfhdkciaaLp
import Derived.Deep.DeepCutAuto
import Derived.Deep.CutBlock
namespace Go.Proofs.Ytjfidfcfhdkciaa.codecBack
open Go.ChangeShapes Go.WideShapes Go.ChangeAt Go.RowKit
set_option linter.unusedVariables false
set_option linter.unusedSimpArgs false

theorem hid_ {p : Prop} (h : p) : Hid p := h
/-- Is it one? As the law asks it. -/
theorem good_iff (p : PartV) : (partS p).2 = (decide (p.k = 0 ∧ 0 ≤ p.num) || decide (p.k = 1 ∧ 0 ≤ p.num ∧ p.num < 256) || decide (1 < p.k)) := by
  have h4 := p.k_lt
  unfold partS
  by_cases h0 : p.k = 0
  · rw [if_pos h0]; simp [h0]
  · by_cases h1 : p.k = 1
    · rw [if_neg h0, if_pos h1]; simp [h1]
    · rw [if_neg h0, if_neg h1]
      have h2 : 1 < p.k := by omega
      split <;> simp [h0, h1, h2]
theorem BackS.below_ {w W W' : World} {g : Nat} {ps : List PartV} {v : Value} (h : BackS w g ps v W) (hb : Below W.heap.size W W') : BackS w g ps v W' := by
  obtain ⟨F, h1, h2, h3, h4, h5, h6⟩ := h
  exact ⟨F, h1.below hb, h2, h3.below hb, h4, h5, h6.trans (hb.mono h6.size)⟩
theorem BackS.put_ {w W W1 W2 : World} {g : Nat} {ps : List PartV} {v v2 : Value} {p : PartV} {e : Ending} {F0 : List Nat} (hO : OutF W g (flatS ps) false F0) (hF0 : ∀ k ∈ F0, w.heap.size ≤ k) (hall : ∀ q ∈ ps, PartOk w w.heap.size q ∧ (partS q).2 = true) (hv : ∀ b, v.ownBlock = some b → b ∉ F0) (hB : Below w.heap.size w W)
    (hR : OwnPP W1 w.heap.size v2 (ps ++ [p])) (hg : W.grownBy W1 v.ownBlock) (hvb : ∀ b, v.ownBlock = some b → w.heap.size ≤ b ∧ b < W.heap.size) (hv2 : v2.ownBlock = v.ownBlock ∨ v2.ownBlock = some W.heap.size) (hok : PartOk w w.heap.size p) (hgood : (partS p).2 = true)
    (hP : PpP W1 g (flatS ps ++ (partS p).1) (false || !(partS p).2) (trim W F0) (partS p).1 (partS p).2 e W2) : BackS w g (ps ++ [p]) v2 W2 := by
  obtain ⟨_, F', h1, h2, h3⟩ := hP
  rw [hgood] at h1
  have hs := hg.size
  refine ⟨F', by rw [flatS_snoc1]; exact h1, fun k hk => ?_, hR.keep h3 fun b hb hm => ?_, fun b hb hm => ?_, fun q hq => ?_, ?_⟩
  · rcases h2 k hk with h4 | h4
    · exact hF0 k (mem_trim.1 h4).1
    · have := hB.size; omega
  · rcases hv2 with e2 | e2
    · rw [e2] at hb
      exact hv b hb (mem_trim.1 hm).1
    · rw [e2] at hb
      injection hb with hb
      have := (mem_trim.1 hm).2
      omega
  · rcases h2 b hm with h4 | h4
    · rcases hv2 with e2 | e2
      · rw [e2] at hb
        exact hv b hb (mem_trim.1 h4).1
      · rw [e2] at hb
        injection hb with hb
        have := (mem_trim.1 h4).2
        omega
    · have := (hR.lt b hb).2
      omega
  · rcases List.mem_append.1 hq with h4 | h4
    · exact hall q h4
    · rcases List.mem_singleton.1 h4 with rfl
      exact ⟨hok, hgood⟩
  · exact (hB.grown hg hB.size fun b hb => (hvb b hb).1).trans (h3.below (fun k hk => hF0 k (mem_trim.1 hk).1) (by have := hB.size; omega))

/-! ### Taken again -/
theorem take_high (n k : Nat) (hk : k < 256 ^ n) (r : List UInt8) : beN ((highB n k ++ r).take n) = k ∧ (highB n k ++ r).drop n = r := by
  have e : (highB n k).length = n := highB_len n k
  refine ⟨?_, List.drop_left' e⟩
  rw [List.take_left' e, beN_highB]
  exact Nat.mod_eq_of_lt hk
theorem fix_cat (m : Nat) (t r : List UInt8) (h : t.length = m) : fixS (m : Int) (t ++ r) 0 = (t, r, 0) := by
  subst h
  by_cases h0 : t.length = 0
  · have : t = [] := List.eq_nil_of_length_eq_zero h0
    subst this
    rfl
  · rw [fixS_yes (by omega) (by simp), List.take_left' rfl, List.drop_left' rfl]
theorem partS0 {p : PartV} (hk : p.k = 0) (hg : (partS p).2 = true) : ∃ q : Nat, p.num = (q : Int) ∧ (partS p).1 = highB 8 q := by
  unfold partS at *
  rw [if_pos hk] at *
  have h : 0 ≤ p.num := by simpa using hg
  refine ⟨p.num.toNat, by omega, ?_⟩
  show numL p.num = _
  exact if_neg (by omega)
theorem partS1 {p : PartV} (hk : p.k = 1) (hg : (partS p).2 = true) : ∃ q : Nat, q < 256 ∧ p.num = (q : Int) ∧ (partS p).1 = [UInt8.ofNat q] := by
  unfold partS at *
  rw [if_neg (by omega), if_pos hk] at *
  have h : 0 ≤ p.num ∧ p.num < 256 := by simpa using hg
  refine ⟨p.num.toNat, by omega, by omega, ?_⟩
  show smallL p.num = _
  exact if_pos h
theorem partS2 {p : PartV} (hk : p.k = 2) : (partS p).1 = p.text.take 200 := by
  unfold partS
  rw [if_neg (by omega), if_neg (by omega), if_pos hk]
theorem partS3 {p : PartV} (hk : p.k = 3) : (partS p).1 = highB 4 (p.text.take 200).length ++ p.text.take 200 := by
  unfold partS
  rw [if_neg (by omega), if_neg (by omega), if_neg (by omega)]
theorem take0 (W : World) (gi : Nat) (F : List Nat) (p : PartV) (r : List UInt8) (hk : p.k = 0) (hg : (partS p).2 = true) (hn : p.num ≤ 9223372036854775807) (h : InF W gi ((partS p).1 ++ r) 0 F) :
    Calls Try.prog 21 #[.pointer (some ⟨gi, 0, none⟩), .int .i64 9223372036854775807] W fun e w' => e = .returned (.int .i64 p.num) ∧ InF w' gi r 0 F ∧ Untouched [gi] W w' := by
  obtain ⟨q, hq, hp⟩ := partS0 hk hg
  rw [hp] at h
  obtain ⟨t1, t2⟩ := take_high 8 q (by have : (256 : Nat) ^ 8 = 18446744073709551616 := by decide
                                       omega) r
  refine (innum_any W gi 9223372036854775807 _ 0 F h (by omega) (by omega)).mono fun e w' hh => ?_
  unfold NumP at hh
  rw [numS_yes (by simp [highB_len]) (by rw [t1]; omega), t1, t2, ← hq] at hh
  exact hh
theorem take1 (W : World) (gi : Nat) (F : List Nat) (p : PartV) (r : List UInt8) (hk : p.k = 1) (hg : (partS p).2 = true) (h : InF W gi ((partS p).1 ++ r) 0 F) :
    Calls Try.prog 22 #[.pointer (some ⟨gi, 0, none⟩), .int .i64 255] W fun e w' => e = .returned (.int .i64 p.num) ∧ InF w' gi r 0 F ∧ Untouched [gi] W w' := by
  obtain ⟨q, hq6, hq, hp⟩ := partS1 hk hg
  rw [hp] at h
  have t1 : beN (([UInt8.ofNat q] ++ r).take 1) = q := by
    show beN [UInt8.ofNat q] = q
    simp [beN]
    omega
  have t2 : ([UInt8.ofNat q] ++ r).drop 1 = r := rfl
  refine (insmall_any W gi 255 _ 0 F h (by omega) (by omega)).mono fun e w' hh => ?_
  unfold NumP at hh
  rw [numS_yes (by simp) (by rw [t1]; omega), t1, t2, ← hq] at hh
  exact hh
theorem take2 (W : World) (gi m : Nat) (F : List Nat) (p : PartV) (r : List UInt8) (hk : p.k = 2) (hm : (p.text.take 200).length = m) (hl : ((partS p).1 ++ r).length ≤ 140737488355328) (h : InF W gi ((partS p).1 ++ r) 0 F) :
    Calls Try.prog 23 #[.pointer (some ⟨gi, 0, none⟩), .int .i64 (m : Int)] W fun e w' => (∃ A c, e = .returned (.slice A m c) ∧ Own8 w' W.heap.size (.slice A m c) (p.text.take 200)) ∧ InF w' gi r 0 F ∧ Untouched [gi] W w' := by
  rw [partS2 hk] at h hl
  refine (infixed_any W gi (m : Int) _ 0 F h hl).mono fun e w' hh => ?_
  unfold FixP at hh
  rw [fix_cat m _ r hm] at hh
  obtain ⟨⟨A, m', c, h1, h2, h3⟩, h4, h5⟩ := hh
  obtain rfl : m' = m := h2.trans hm
  exact ⟨⟨A, c, h1, h3⟩, h4, h5⟩
theorem take3 (W : World) (gi m : Nat) (F : List Nat) (p : PartV) (r : List UInt8) (hk : p.k = 3) (hm : (p.text.take 200).length = m) (hl : ((partS p).1 ++ r).length ≤ 140737488355328) (h : InF W gi ((partS p).1 ++ r) 0 F) :
    Calls Try.prog 24 #[.pointer (some ⟨gi, 0, none⟩), .int .i64 200] W fun e w' => (∃ A c, e = .returned (.slice A m c) ∧ Own8 w' W.heap.size (.slice A m c) (p.text.take 200)) ∧ InF w' gi r 0 F ∧ Untouched [gi] W w' := by
  have hm2 : m ≤ 200 := by rw [← hm, List.length_take]; omega
  rw [partS3 hk, hm, List.append_assoc] at h hl
  obtain ⟨t1, t2⟩ := take_high 4 m (by have : (256 : Nat) ^ 4 = 4294967296 := by decide
                                       omega) (p.text.take 200 ++ r)
  refine (inbytes_any W gi 200 _ 0 F h hl (by omega) (by omega)).mono fun e w' hh => ?_
  unfold FixP at hh
  rw [numS_yes (by simp [highB_len]) (by rw [t1]; omega), t1, t2] at hh
  rw [fix_cat m _ r hm] at hh
  obtain ⟨⟨A, m', c, h1, h2, h3⟩, h4, h5⟩ := hh
  obtain rfl : m' = m := h2.trans hm
  exact ⟨⟨A, c, h1, h3⟩, h4, h5⟩
/-- What stands in the second loop: the In, the parts' row. -/
def TakeS (w : World) (gi : Nat) (L : List UInt8) (ps : List PartV) (v : Value) (Fi : List Nat) (W : World) : Prop :=
  InF W gi L 0 Fi ∧ OwnPP W w.heap.size v ps ∧ (∀ b, v.ownBlock = some b → b ≠ gi ∧ b ∉ Fi) ∧ w.heap.size ≤ gi ∧ Below w.heap.size w W
theorem TakeS.next {w W W' : World} {gi : Nat} {L r : List UInt8} {ps : List PartV} {v : Value} {Fi : List Nat} (h : TakeS w gi L ps v Fi W) (hI : InF W' gi r 0 Fi) (hU : Untouched [gi] W W') : TakeS w gi r ps v Fi W' := by
  obtain ⟨h1, h2, h3, h4, h5⟩ := h
  exact ⟨hI, h2.keep hU fun b hb => by simpa using (h3 b hb).1, h3, h4, h5.trans (hU.below (fun k hk => by rcases List.mem_singleton.1 hk with rfl; exact h4) h5.size)⟩
theorem TakeS.below_ {w W W' : World} {gi : Nat} {L : List UInt8} {ps : List PartV} {v : Value} {Fi : List Nat} (h : TakeS w gi L ps v Fi W) (hb : Below W.heap.size W W') : TakeS w gi L ps v Fi W' := by
  obtain ⟨h1, h2, h3, h4, h5⟩ := h
  exact ⟨h1.apart (G := []) (.of_below hb) fun _ _ => by simp, h2.below hb, h3, h4, h5.trans (hb.mono h5.size)⟩
/-- What each operation of a comparison of numbers leaves; the In, ahead of the call and behind it. -/
def CmR (gi np : Nat) (z : Int) : Nat → Value → Prop
  | 0, v => v = .pointer (some ⟨gi, 0, none⟩)
  | 1, v => v = .int .i64 z
  | 2, v => v = .pointer (some ⟨np, 1, none⟩)
  | 3, v => v = .int .i64 z
  | 4, v => v = .bool true
  | 5, v => v = .bool true
  | _, _ => True
def CmJ (gi : Nat) (L r : List UInt8) (Fi : List Nat) (D : Nat → Bool) (W : World) : Prop := (D 1 = false → InF W gi L 0 Fi) ∧ (D 1 = true → InF W gi r 0 Fi)
theorem CmJ.same {gi : Nat} {L r : List UInt8} {Fi : List Nat} {D : Nat → Bool} {W : World} (h : CmJ gi L r Fi D W) (i : Nat) (h1 : i ≠ 1) : CmJ gi L r Fi (fun j => decide (j = i) || D j) W := by
  have a1 := orf_ne (L := D) (i := i) (fun e : 1 = i => h1 e.symm)
  unfold CmJ
  simp only [a1]
  exact h
theorem CmJ.take {gi : Nat} {L r : List UInt8} {Fi : List Nat} {D : Nat → Bool} {W W' : World} (h : CmJ gi L r Fi D W) (hI : InF W' gi r 0 Fi) : CmJ gi L r Fi (fun j => decide (j = 1) || D j) W' :=
  ⟨fun e => by simp at e, fun _ => hI⟩

set_option maxRecDepth 100000 in
set_option maxHeartbeats 8000000 in
theorem walk (w : World) (A : Option Addr) (ls : List PartV) (c : Nat) (hr : RdP w w.heap.size A ls) (hlc : ls.length ≤ c) (hcm : c ≤ 9223372036854775807) :
    Calls Try.prog 4 #[.slice A ls.length c] w fun e w' => e = .returned (.bool true) ∧ Below w.heap.size w w' := by
  have HR := hid_ hr
  have S0 : Hid (BackS w w.heap.size [] (.slice none 0 0) (w.alloc (.cells #[.pointer none, .int .i64 0, .bool false] 33))) := hid_ ⟨_, OutF.zero w, fun k hk => by rcases List.mem_singleton.1 hk with rfl; exact Nat.le_refl _, OwnPP.nil_ _ _, fun b hb => by simp [Value.ownBlock] at hb, fun q hq => by simp at hq, (Below.refl w.heap.size w).alloc (Nat.le_refl _) _⟩
  obtain ⟨g, hge⟩ : ∃ g, w.heap.size = g := ⟨_, rfl⟩
  have S1 : Hid (BackS w g [] (.slice none 0 0) (w.alloc (.cells #[.pointer none, .int .i64 0, .bool false] 33))) := by rw [← hge]; exact S0
  clear hr S0
  go_enter Try.func4, Try.ntmps4
  go_upto_region 3 with fail
  generalize w.alloc (.cells #[.pointer none, .int .i64 0, .bool false] 33) = w1 at *
  clear hge
  go_upto_block 0 with fail
  go_cut [4, 5, 6] from 16 to 64 (fun s4 _ _ wx => ∃ (ps : List PartV), ps.length ≤ 20 ∧ Hid (BackS w g ps s4 wx))
  case first =>
    go_wp2_with fail
    go_loopw [4, 5, 6] (fun v i _ wr => ∃ (k : Nat) (ps : List PartV), k ≤ ls.length ∧ k ≤ 20 ∧ ps.length ≤ k ∧ i = .int .i64 k ∧ Hid (BackS w g ps v wr)) (fun _ i _ _ => 20 - (intOf i).toNat)
    case atStart => exact ⟨0, [], Nat.zero_le _, Nat.zero_le _, Nat.zero_le _, rfl, S1⟩
    case round =>
      obtain ⟨k, ps, hk, hk20, hpk, rfl, HS⟩ := hrel
      clear S1
      by_cases hk1 : k < ls.length
      · have hd1 : decide ((k : Int) < (ls.length : Int)) = true := decide_eq_true (by omega)
        have hd2 : decide (k < ls.length) = true := decide_eq_true hk1
        by_cases hk2 : k < 20
        · have hd3 : decide ((k : Int) < 20) = true := decide_eq_true (by omega)
          have hd4 : decide (k < 20) = true := decide_eq_true hk2
          obtain ⟨b, off, rfl, hb1, hcell⟩ := HR.out (by omega)
          obtain ⟨e0, e1, e2, hok⟩ := hcell k hk1
          obtain ⟨F, hO, hF, hRow, hvF, hall, hB⟩ := HS.out
          obtain ⟨PA, Pc, rfl⟩ := hRow.form
          have f0 := (hB.cell (p := ⟨b, off + 3 * k, none⟩) hb1).trans e0
          have f1 := (hB.cell (p := ⟨b, off + 3 * k + 1, none⟩) hb1).trans e1
          have f2 := (hB.cell (p := ⟨b, off + 3 * k + 2, none⟩) hb1).trans e2
          rw [Nat.mul_comm] at f0 f1 f2
          have HOK := hid_ hok
          clear e0 e1 e2 hcell hok
          generalize ls[k] = p at *
          have t0 : (0 : Int) ≤ (k : Int) := by omega
          have t1 : (k : Int) < (ls.length : Int) := by omega
          have KP := hid_ (Bk.new wr 36 #[.int .i64 p.kind, .int .i64 p.num, .slice p.at_ p.text.length p.cap])
          have S3 : Hid (BackS w g ps (.slice PA ps.length Pc) (wr.alloc (.cells #[.int .i64 p.kind, .int .i64 p.num, .slice p.at_ p.text.length p.cap] 36))) := hid_ (BackS.below_ HS.out ((Below.refl wr.heap.size wr).alloc (Nat.le_refl _) _))
          have ck := fun W => kind_any W p
          unfold PartV.agg at ck
          have HVQ0 : ∀ b, (Value.slice PA ps.length Pc).ownBlock = some b → b < wr.heap.size := fun b hb => (hRow.lt b hb).2
          clear hO hF hRow hvF hall hB HS
          go_upto_region 7 with fail
          generalize wr.alloc (.cells #[.int .i64 p.kind, .int .i64 p.num, .slice p.at_ p.text.length p.cap] 36) = wp at *
          obtain ⟨q, hq⟩ : ∃ q, wr.heap.size = q := ⟨_, rfl⟩
          rw [hq] at KP HVQ0 ⊢
          have HVQ := hid_ HVQ0
          clear HVQ0
          clear hq f0 f1 f2
          obtain ⟨e10, e11, e12⟩ := Bk.three KP.out
          go_cut [57] (fun s57 wx => s57 = .bool (partS p).2 ∧ Hid (Below wp.heap.size wp wx))
          case first =>
            have hgd := good_iff p
            have h4 := p.k_lt
            have n0 := HOK.out.n0
            have n1 := HOK.out.n1
            generalize (partS p).2 = gd at *
            clear HOK S3
            generalize p.k = kk at *
            generalize p.kind = z at *
            generalize p.num = y at *
            generalize p.at_ = tA at *
            generalize p.cap = tc at *
            generalize p.text.length = tl at *
            have hcases : kk = 0 ∨ kk = 1 ∨ kk = 2 ∨ kk = 3 := by omega
            by_cases hneg : y < 0
            · have d1 : decide (0 ≤ y) = false := decide_eq_false (by omega)
              rcases hcases with rfl | rfl | rfl | rfl
              · rw [show (decide ((0 : Nat) = 0 ∧ 0 ≤ y) || decide ((0 : Nat) = 1 ∧ 0 ≤ y ∧ y < 256) || decide (1 < (0 : Nat))) = false by simp; try omega] at hgd
                subst hgd
                go_wp2_with (first
                  | (go_at_call 18; ((with_reducible refine (ck wp).mono ?_); rintro e w2 ⟨rfl, hb⟩; have X2 := hid_ hb; have K2 := hid_ (KP.out.below hb KP.out.lt); clear hb; obtain ⟨e20, e21, e22⟩ := Bk.three K2.out))
                  | (go_at_call 18; ((with_reducible refine (ck w2).mono ?_); rintro e w3 ⟨rfl, hb⟩; have X3 := hid_ (X2.out.trans (hb.mono X2.out.size)); have K3 := hid_ (K2.out.below hb K2.out.lt); clear hb; obtain ⟨e30, e31, e32⟩ := Bk.three K3.out))
                  | (go_at_call 18; ((with_reducible refine (ck w3).mono ?_); rintro e w4 ⟨rfl, hb⟩; have X4 := hid_ (X3.out.trans (hb.mono X3.out.size)); clear hb)))
                go_meet
                exact ⟨rfl, X4⟩
              · rw [show (decide ((1 : Nat) = 0 ∧ 0 ≤ y) || decide ((1 : Nat) = 1 ∧ 0 ≤ y ∧ y < 256) || decide (1 < (1 : Nat))) = false by simp; try omega] at hgd
                subst hgd
                go_wp2_with (first
                  | (go_at_call 18; ((with_reducible refine (ck wp).mono ?_); rintro e w2 ⟨rfl, hb⟩; have X2 := hid_ hb; have K2 := hid_ (KP.out.below hb KP.out.lt); clear hb; obtain ⟨e20, e21, e22⟩ := Bk.three K2.out))
                  | (go_at_call 18; ((with_reducible refine (ck w2).mono ?_); rintro e w3 ⟨rfl, hb⟩; have X3 := hid_ (X2.out.trans (hb.mono X2.out.size)); have K3 := hid_ (K2.out.below hb K2.out.lt); clear hb; obtain ⟨e30, e31, e32⟩ := Bk.three K3.out))
                  | (go_at_call 18; ((with_reducible refine (ck w3).mono ?_); rintro e w4 ⟨rfl, hb⟩; have X4 := hid_ (X3.out.trans (hb.mono X3.out.size)); clear hb)))
                go_meet
                exact ⟨rfl, X4⟩
              · rw [show (decide ((2 : Nat) = 0 ∧ 0 ≤ y) || decide ((2 : Nat) = 1 ∧ 0 ≤ y ∧ y < 256) || decide (1 < (2 : Nat))) = true by simp; try omega] at hgd
                subst hgd
                go_wp2_with (first
                  | (go_at_call 18; ((with_reducible refine (ck wp).mono ?_); rintro e w2 ⟨rfl, hb⟩; have X2 := hid_ hb; have K2 := hid_ (KP.out.below hb KP.out.lt); clear hb; obtain ⟨e20, e21, e22⟩ := Bk.three K2.out))
                  | (go_at_call 18; ((with_reducible refine (ck w2).mono ?_); rintro e w3 ⟨rfl, hb⟩; have X3 := hid_ (X2.out.trans (hb.mono X2.out.size)); have K3 := hid_ (K2.out.below hb K2.out.lt); clear hb; obtain ⟨e30, e31, e32⟩ := Bk.three K3.out))
                  | (go_at_call 18; ((with_reducible refine (ck w3).mono ?_); rintro e w4 ⟨rfl, hb⟩; have X4 := hid_ (X3.out.trans (hb.mono X3.out.size)); clear hb)))
                go_meet
                exact ⟨rfl, X4⟩
              · rw [show (decide ((3 : Nat) = 0 ∧ 0 ≤ y) || decide ((3 : Nat) = 1 ∧ 0 ≤ y ∧ y < 256) || decide (1 < (3 : Nat))) = true by simp; try omega] at hgd
                subst hgd
                go_wp2_with (first
                  | (go_at_call 18; ((with_reducible refine (ck wp).mono ?_); rintro e w2 ⟨rfl, hb⟩; have X2 := hid_ hb; have K2 := hid_ (KP.out.below hb KP.out.lt); clear hb; obtain ⟨e20, e21, e22⟩ := Bk.three K2.out))
                  | (go_at_call 18; ((with_reducible refine (ck w2).mono ?_); rintro e w3 ⟨rfl, hb⟩; have X3 := hid_ (X2.out.trans (hb.mono X2.out.size)); have K3 := hid_ (K2.out.below hb K2.out.lt); clear hb; obtain ⟨e30, e31, e32⟩ := Bk.three K3.out))
                  | (go_at_call 18; ((with_reducible refine (ck w3).mono ?_); rintro e w4 ⟨rfl, hb⟩; have X4 := hid_ (X3.out.trans (hb.mono X3.out.size)); clear hb)))
                go_meet
                exact ⟨rfl, X4⟩
            · obtain ⟨m, rfl⟩ : ∃ m : Nat, y = (m : Int) := ⟨y.toNat, by omega⟩
              have d1 : decide (0 ≤ (m : Int)) = true := decide_eq_true (by omega)
              by_cases hbig : m < 256
              · have d2 : decide ((m : Int) < 256) = true := decide_eq_true (by omega)
                have d3 : decide (m < 256) = true := decide_eq_true hbig
                rcases hcases with rfl | rfl | rfl | rfl
                · rw [show (decide ((0 : Nat) = 0 ∧ 0 ≤ (m : Int)) || decide ((0 : Nat) = 1 ∧ 0 ≤ (m : Int) ∧ (m : Int) < 256) || decide (1 < (0 : Nat))) = true by simp; try omega] at hgd
                  subst hgd
                  go_wp2_with (first
                    | (go_at_call 18; ((with_reducible refine (ck wp).mono ?_); rintro e w2 ⟨rfl, hb⟩; have X2 := hid_ hb; have K2 := hid_ (KP.out.below hb KP.out.lt); clear hb; obtain ⟨e20, e21, e22⟩ := Bk.three K2.out))
                    | (go_at_call 18; ((with_reducible refine (ck w2).mono ?_); rintro e w3 ⟨rfl, hb⟩; have X3 := hid_ (X2.out.trans (hb.mono X2.out.size)); have K3 := hid_ (K2.out.below hb K2.out.lt); clear hb; obtain ⟨e30, e31, e32⟩ := Bk.three K3.out))
                    | (go_at_call 18; ((with_reducible refine (ck w3).mono ?_); rintro e w4 ⟨rfl, hb⟩; have X4 := hid_ (X3.out.trans (hb.mono X3.out.size)); clear hb)))
                  go_meet
                  exact ⟨rfl, X2⟩
                · rw [show (decide ((1 : Nat) = 0 ∧ 0 ≤ (m : Int)) || decide ((1 : Nat) = 1 ∧ 0 ≤ (m : Int) ∧ (m : Int) < 256) || decide (1 < (1 : Nat))) = true by simp; try omega] at hgd
                  subst hgd
                  go_wp2_with (first
                    | (go_at_call 18; ((with_reducible refine (ck wp).mono ?_); rintro e w2 ⟨rfl, hb⟩; have X2 := hid_ hb; have K2 := hid_ (KP.out.below hb KP.out.lt); clear hb; obtain ⟨e20, e21, e22⟩ := Bk.three K2.out))
                    | (go_at_call 18; ((with_reducible refine (ck w2).mono ?_); rintro e w3 ⟨rfl, hb⟩; have X3 := hid_ (X2.out.trans (hb.mono X2.out.size)); have K3 := hid_ (K2.out.below hb K2.out.lt); clear hb; obtain ⟨e30, e31, e32⟩ := Bk.three K3.out))
                    | (go_at_call 18; ((with_reducible refine (ck w3).mono ?_); rintro e w4 ⟨rfl, hb⟩; have X4 := hid_ (X3.out.trans (hb.mono X3.out.size)); clear hb)))
                  go_meet
                  exact ⟨rfl, X3⟩
                · rw [show (decide ((2 : Nat) = 0 ∧ 0 ≤ (m : Int)) || decide ((2 : Nat) = 1 ∧ 0 ≤ (m : Int) ∧ (m : Int) < 256) || decide (1 < (2 : Nat))) = true by simp; try omega] at hgd
                  subst hgd
                  go_wp2_with (first
                    | (go_at_call 18; ((with_reducible refine (ck wp).mono ?_); rintro e w2 ⟨rfl, hb⟩; have X2 := hid_ hb; have K2 := hid_ (KP.out.below hb KP.out.lt); clear hb; obtain ⟨e20, e21, e22⟩ := Bk.three K2.out))
                    | (go_at_call 18; ((with_reducible refine (ck w2).mono ?_); rintro e w3 ⟨rfl, hb⟩; have X3 := hid_ (X2.out.trans (hb.mono X2.out.size)); have K3 := hid_ (K2.out.below hb K2.out.lt); clear hb; obtain ⟨e30, e31, e32⟩ := Bk.three K3.out))
                    | (go_at_call 18; ((with_reducible refine (ck w3).mono ?_); rintro e w4 ⟨rfl, hb⟩; have X4 := hid_ (X3.out.trans (hb.mono X3.out.size)); clear hb)))
                  go_meet
                  exact ⟨rfl, X4⟩
                · rw [show (decide ((3 : Nat) = 0 ∧ 0 ≤ (m : Int)) || decide ((3 : Nat) = 1 ∧ 0 ≤ (m : Int) ∧ (m : Int) < 256) || decide (1 < (3 : Nat))) = true by simp; try omega] at hgd
                  subst hgd
                  go_wp2_with (first
                    | (go_at_call 18; ((with_reducible refine (ck wp).mono ?_); rintro e w2 ⟨rfl, hb⟩; have X2 := hid_ hb; have K2 := hid_ (KP.out.below hb KP.out.lt); clear hb; obtain ⟨e20, e21, e22⟩ := Bk.three K2.out))
                    | (go_at_call 18; ((with_reducible refine (ck w2).mono ?_); rintro e w3 ⟨rfl, hb⟩; have X3 := hid_ (X2.out.trans (hb.mono X2.out.size)); have K3 := hid_ (K2.out.below hb K2.out.lt); clear hb; obtain ⟨e30, e31, e32⟩ := Bk.three K3.out))
                    | (go_at_call 18; ((with_reducible refine (ck w3).mono ?_); rintro e w4 ⟨rfl, hb⟩; have X4 := hid_ (X3.out.trans (hb.mono X3.out.size)); clear hb)))
                  go_meet
                  exact ⟨rfl, X4⟩
              · have d2 : decide ((m : Int) < 256) = false := decide_eq_false (by omega)
                have d3 : decide (m < 256) = false := decide_eq_false hbig
                rcases hcases with rfl | rfl | rfl | rfl
                · rw [show (decide ((0 : Nat) = 0 ∧ 0 ≤ (m : Int)) || decide ((0 : Nat) = 1 ∧ 0 ≤ (m : Int) ∧ (m : Int) < 256) || decide (1 < (0 : Nat))) = true by simp; try omega] at hgd
                  subst hgd
                  go_wp2_with (first
                    | (go_at_call 18; ((with_reducible refine (ck wp).mono ?_); rintro e w2 ⟨rfl, hb⟩; have X2 := hid_ hb; have K2 := hid_ (KP.out.below hb KP.out.lt); clear hb; obtain ⟨e20, e21, e22⟩ := Bk.three K2.out))
                    | (go_at_call 18; ((with_reducible refine (ck w2).mono ?_); rintro e w3 ⟨rfl, hb⟩; have X3 := hid_ (X2.out.trans (hb.mono X2.out.size)); have K3 := hid_ (K2.out.below hb K2.out.lt); clear hb; obtain ⟨e30, e31, e32⟩ := Bk.three K3.out))
                    | (go_at_call 18; ((with_reducible refine (ck w3).mono ?_); rintro e w4 ⟨rfl, hb⟩; have X4 := hid_ (X3.out.trans (hb.mono X3.out.size)); clear hb)))
                  go_meet
                  exact ⟨rfl, X2⟩
                · rw [show (decide ((1 : Nat) = 0 ∧ 0 ≤ (m : Int)) || decide ((1 : Nat) = 1 ∧ 0 ≤ (m : Int) ∧ (m : Int) < 256) || decide (1 < (1 : Nat))) = false by simp; try omega] at hgd
                  subst hgd
                  go_wp2_with (first
                    | (go_at_call 18; ((with_reducible refine (ck wp).mono ?_); rintro e w2 ⟨rfl, hb⟩; have X2 := hid_ hb; have K2 := hid_ (KP.out.below hb KP.out.lt); clear hb; obtain ⟨e20, e21, e22⟩ := Bk.three K2.out))
                    | (go_at_call 18; ((with_reducible refine (ck w2).mono ?_); rintro e w3 ⟨rfl, hb⟩; have X3 := hid_ (X2.out.trans (hb.mono X2.out.size)); have K3 := hid_ (K2.out.below hb K2.out.lt); clear hb; obtain ⟨e30, e31, e32⟩ := Bk.three K3.out))
                    | (go_at_call 18; ((with_reducible refine (ck w3).mono ?_); rintro e w4 ⟨rfl, hb⟩; have X4 := hid_ (X3.out.trans (hb.mono X3.out.size)); clear hb)))
                  go_meet
                  exact ⟨rfl, X4⟩
                · rw [show (decide ((2 : Nat) = 0 ∧ 0 ≤ (m : Int)) || decide ((2 : Nat) = 1 ∧ 0 ≤ (m : Int) ∧ (m : Int) < 256) || decide (1 < (2 : Nat))) = true by simp; try omega] at hgd
                  subst hgd
                  go_wp2_with (first
                    | (go_at_call 18; ((with_reducible refine (ck wp).mono ?_); rintro e w2 ⟨rfl, hb⟩; have X2 := hid_ hb; have K2 := hid_ (KP.out.below hb KP.out.lt); clear hb; obtain ⟨e20, e21, e22⟩ := Bk.three K2.out))
                    | (go_at_call 18; ((with_reducible refine (ck w2).mono ?_); rintro e w3 ⟨rfl, hb⟩; have X3 := hid_ (X2.out.trans (hb.mono X2.out.size)); have K3 := hid_ (K2.out.below hb K2.out.lt); clear hb; obtain ⟨e30, e31, e32⟩ := Bk.three K3.out))
                    | (go_at_call 18; ((with_reducible refine (ck w3).mono ?_); rintro e w4 ⟨rfl, hb⟩; have X4 := hid_ (X3.out.trans (hb.mono X3.out.size)); clear hb)))
                  go_meet
                  exact ⟨rfl, X4⟩
                · rw [show (decide ((3 : Nat) = 0 ∧ 0 ≤ (m : Int)) || decide ((3 : Nat) = 1 ∧ 0 ≤ (m : Int) ∧ (m : Int) < 256) || decide (1 < (3 : Nat))) = true by simp; try omega] at hgd
                  subst hgd
                  go_wp2_with (first
                    | (go_at_call 18; ((with_reducible refine (ck wp).mono ?_); rintro e w2 ⟨rfl, hb⟩; have X2 := hid_ hb; have K2 := hid_ (KP.out.below hb KP.out.lt); clear hb; obtain ⟨e20, e21, e22⟩ := Bk.three K2.out))
                    | (go_at_call 18; ((with_reducible refine (ck w2).mono ?_); rintro e w3 ⟨rfl, hb⟩; have X3 := hid_ (X2.out.trans (hb.mono X2.out.size)); have K3 := hid_ (K2.out.below hb K2.out.lt); clear hb; obtain ⟨e30, e31, e32⟩ := Bk.three K3.out))
                    | (go_at_call 18; ((with_reducible refine (ck w3).mono ?_); rintro e w4 ⟨rfl, hb⟩; have X4 := hid_ (X3.out.trans (hb.mono X3.out.size)); clear hb)))
                  go_meet
                  exact ⟨rfl, X4⟩
          case rest =>
            obtain ⟨rfl, X7⟩ := hcut
            rename_i K hK
            refine hK _ _ ?_
            clear hK e10 e11 e12
            have S7 := hid_ (BackS.below_ S3.out X7.out)
            have KP7 := hid_ (KP.out.below X7.out KP.out.lt)
            obtain ⟨e70, e71, e72⟩ := Bk.three KP7.out
            clear S3 X7 KP
            cases hgd : (partS p).2
            · go_wp2
              go_roundw
              case rel => exact ⟨k + 1, ps, by omega, by omega, by omega, by go_num, S7⟩
              case measure => simp [intOf]; omega
            · obtain ⟨wb, hwb⟩ : ∃ wb, wc.alloc (.cells #[.int .i64 p.kind, .int .i64 p.num, .slice p.at_ p.text.length p.cap] 36) = wb := ⟨_, rfl⟩
              have S8 : BackS w g ps (.slice PA ps.length Pc) wb := by rw [← hwb]; exact BackS.below_ S7.out ((Below.refl wc.heap.size wc).alloc (Nat.le_refl _) _)
              have KN := hid_ (show Bk wb wc.heap.size 36 #[.int .i64 p.kind, .int .i64 p.num, .slice p.at_ p.text.length p.cap] by rw [← hwb]; exact Bk.new wc _ _)
              have KQ := hid_ (show Bk wb q 36 #[.int .i64 p.kind, .int .i64 p.num, .slice p.at_ p.text.length p.cap] by rw [← hwb]; exact KP7.out.alloc _)
              obtain ⟨F, hO, hF, hRow, hvF, hall, hB⟩ := S8
              have hvb := hRow.lt
              have hfl := flatS_len ps
              have HR8 := hid_ hRow
              have hbs := hB.size
              have HPUT := hid_ (fun (W1 : World) (v2 : Value) (h1 : OwnPP W1 w.heap.size v2 (ps ++ [p])) (h2 : wb.grownBy W1 (Value.slice PA ps.length Pc).ownBlock) (h3 : v2.ownBlock = (Value.slice PA ps.length Pc).ownBlock ∨ v2.ownBlock = some wb.heap.size) (e : Ending) (W2 : World) (hP : PpP W1 g (flatS ps ++ (partS p).1) (false || !(partS p).2) (trim wb F) (partS p).1 (partS p).2 e W2) => BackS.put_ hO hF hall hvF hB h1 h2 hvb h3 HOK.out hgd hP)
              have HOT := hid_ (fun (W1 : World) (h2 : wb.grownBy W1 (Value.slice PA ps.length Pc).ownBlock) => hO.trim.apart (G := (Value.slice PA ps.length Pc).ownBlock.toList) (Untouched.of_grown h2 fun k hk => by simp [hk]) fun k hk hm => hvF k (by simpa using hm) (mem_trim.1 hk).1)
              have HOK8 := hid_ (fun (W1 : World) (h2 : wb.grownBy W1 (Value.slice PA ps.length Pc).ownBlock) => (HOK.out.below (hB.grown h2 hB.size fun b hb => (hvb b hb).1)).more (Nat.le_trans hB.size h2.size))
              have HL300 := hid_ (show (flatS ps).length + 300 ≤ 140737488355328 by omega)
              clear hO hF hRow hvF hall hB hvb hfl KP7 S7
              go_wp2_with (first
                | (refine wpList_appPP rfl (.tmp 58) (.tmp 60) rfl HR8.out rfl p wc.heap.size 1 rfl KN.out (by omega) hbs ?_; intro A9 c9 w9 h1 h2 h3; have KQ9 := hid_ (KQ.out.grown h2 (fun e => absurd (HVQ.out q e.symm) (Nat.lt_irrefl _))); obtain ⟨e90, e91, e92⟩ := Bk.three KQ9.out; have cp := ppart_any w9 g (flatS ps) false (trim wb F) p (HOK8.out w9 h2) (HOT.out w9 h2) HL300.out; unfold PartV.agg at cp; have HP := hid_ (HPUT.out w9 _ h1 h2 h3); clear h1 h2 h3)
                | (go_at_call 17; ((with_reducible refine cp.mono ?_); intro e W2 hP; have S9 := hid_ (HP.out _ _ hP); have he := hP.1; subst he; clear hP cp)))
              go_roundw
              case rel => exact ⟨k + 1, ps ++ [p], by omega, by omega, by simp; omega, by go_num, by simpa using S9⟩
              case measure => simp [intOf]; omega
        · have hd3 : decide ((k : Int) < 20) = false := decide_eq_false (by omega)
          have hd4 : decide (k < 20) = false := decide_eq_false hk2
          have HX := hid_ HS.out
          go_wp2
          go_meet
          exact ⟨ps, by omega, HX⟩
      · have hd1 : decide ((k : Int) < (ls.length : Int)) = false := decide_eq_false (by omega)
        have hd2 : decide (k < ls.length) = false := decide_eq_false hk1
        have HX := hid_ HS.out
        go_wp2
        go_meet
        exact ⟨ps, by omega, HX⟩
  case rest =>
    obtain ⟨ps, hp20, HS⟩ := hcut
    rename_i K hK
    refine hK _ _ ?_
    clear hK HR hlc hcm S1
    obtain ⟨F, hO, hF, hRow, hvF, hall, hB⟩ := HS.out
    obtain ⟨PA, Pc, rfl⟩ := hRow.form
    have hfl := flatS_len ps
    obtain ⟨n, hn⟩ : ∃ n, (flatS ps).length = n := ⟨_, rfl⟩
    have HN := hid_ hn
    have hnb : n ≤ 140737488355328 := by omega
    have HRow := hid_ hRow
    have HALL := hid_ hall
    have HB := hid_ hB
    have cd : Calls Try.prog 11 #[.pointer (some ⟨g, 0, none⟩)] wc fun e w' => ∃ A c, e = .returned (.tuple #[.slice A n c, .int .i64 0]) ∧ Own8 w' wc.heap.size (.slice A n c) (flatS ps) ∧ Below wc.heap.size wc w' := done_any wc g n (flatS ps) false F hO hn hnb
    clear hO hF hRow hvF hall hB HS hn hfl
    go_wp2_with (first
      | (go_at_call 11; ((with_reducible refine cd.mono ?_); rintro e w2 ⟨A2, c2, rfl, ho, hb⟩; have O2 := hid_ ho; have R2 := hid_ (HRow.out.below hb); have B2 := hid_ (HB.out.trans (hb.mono HB.out.size)); clear ho hb cd; have cc := codes_any w2))
      | (go_at_call 12; ((with_reducible refine cc.mono ?_); rintro e w3 ⟨rfl, hb⟩; have O3 := hid_ (O2.out.below hb (Nat.le_refl _)); have R3 := hid_ (R2.out.below hb); have B3 := hid_ (B2.out.trans (hb.mono B2.out.size)); clear hb cc; have co := of_any w3 A2 n c2 (flatS ps) HN.out O3.out.rd.1 hnb))
      | (go_at_call 19; ((with_reducible refine co.mono ?_); clear co; rintro e w5 ⟨gi, Fi, rfl, hI5, hF5, hB5⟩; have S5 : Hid (TakeS w gi (flatS ps) ps (.slice PA ps.length Pc) Fi w5) := hid_ ⟨hI5, R3.out.below hB5, fun b hb => (by have h1 := (R3.out.lt b hb).2; exact ⟨fun e => (by have := (hF5 gi hI5.1).1; omega), fun hm => (by have := (hF5 b hm).1; omega)⟩), (by have := (hF5 gi hI5.1).1; have := B3.out.size; omega), B3.out.trans (hB5.mono B3.out.size)⟩; clear hI5 hF5 hB5)))
    clear O2 R2 B2 O3 R3 B3 HRow HB
    go_loopw [10, 11, 12, 13] (fun i _ _ _ wr => ∃ k : Nat, k ≤ ps.length ∧ i = .int .i64 k ∧ Hid (TakeS w gi (flatS (ps.drop k)) ps (.slice PA ps.length Pc) Fi wr)) (fun i _ _ _ _ => ps.length - (intOf i).toNat)
    case atStart => exact ⟨0, Nat.zero_le _, rfl, by simpa using S5⟩
    case round =>
      obtain ⟨k, hk, rfl, HS⟩ := hrel
      clear S5
      by_cases hk1 : k < ps.length
      · have hd1 : decide ((k : Int) < (ps.length : Int)) = true := decide_eq_true (by omega)
        have hd2 : decide (k < ps.length) = true := decide_eq_true hk1
        obtain ⟨hok, hgood⟩ := HALL.out ps[k] (List.getElem_mem hk1)
        obtain ⟨hI, hRow, hvF, hgi, hB⟩ := HS.out
        obtain ⟨gb, rfl, _, f0, f1, f2⟩ := hRow.cells k hk1
        have hdr := flatS_drop ps k hk1
        have hln := flatS_len (ps.drop k)
        have hlen : (flatS (ps.drop k)).length ≤ 140737488355328 := by rw [List.length_drop] at hln; omega
        generalize ps[k] = p at *
        have t0 : (0 : Int) ≤ (k : Int) := by omega
        have t1 : (k : Int) < (ps.length : Int) := by omega
        have HOK := hid_ hok
        have HG := hid_ hgood
        have HDR := hid_ hdr
        have HLEN := hid_ hlen
        have KP := hid_ (Bk.new wr 36 #[.int .i64 p.kind, .int .i64 p.num, .slice p.at_ p.text.length p.cap])
        have SP : Hid (TakeS w gi (flatS (ps.drop k)) ps (.slice (some ⟨gb, 0, none⟩) ps.length Pc) Fi (wr.alloc (.cells #[.int .i64 p.kind, .int .i64 p.num, .slice p.at_ p.text.length p.cap] 36))) := hid_ (TakeS.below_ HS.out ((Below.refl wr.heap.size wr).alloc (Nat.le_refl _) _))
        have hnp0 : wr.heap.size ≠ gi := fun e => by obtain ⟨_, _, _, h9⟩ := InF.out hI; have := h9.head.lt; omega
        have ck := fun W => kind_any W p
        unfold PartV.agg at ck
        clear hI hRow hvF hgi hB hok hgood hdr hln hlen HS
        go_upto_region 18 with fail
        generalize wr.alloc (.cells #[.int .i64 p.kind, .int .i64 p.num, .slice p.at_ p.text.length p.cap] 36) = wp at *
        obtain ⟨np, hnpe⟩ : ∃ np, wr.heap.size = np := ⟨_, rfl⟩
        rw [hnpe] at KP hnp0 ⊢
        clear hnpe f0 f1 f2
        obtain ⟨e10, e11, e12⟩ := Bk.three KP.out
        obtain ⟨m, hm⟩ : ∃ m, (p.text.take 200).length = m := ⟨_, rfl⟩
        have HM := hid_ hm
        have ct := text_any wp p m ((HOK.out.below SP.out.2.2.2.2).more SP.out.2.2.2.2.size) hm
        unfold PartV.agg at ct
        have hsz : (strOf (p.text.take 200)).size = m := by rw [strOf_size, hm]
        have hq := strOf_eq (p.text.take 200) (p.text.take 200) rfl
        have n1 := HOK.out.n1
        have hk4 := p.k_lt
        have hcases : p.k = 0 ∨ p.k = 1 ∨ p.k = 2 ∨ p.k = 3 := by omega
        clear hm HOK
        rcases hcases with e | e | e | e
        all_goals
          rw [e] at ck
        · go_upto_region 22 with (first
            | (go_at_call 20; ((with_reducible refine ct.mono ?_); rintro e' w8 ⟨A8, c8, rfl, ho, hb⟩; have ST := hid_ (TakeS.below_ SP.out hb); have KT := hid_ (KP.out.below hb KP.out.lt); have cv := conv_strn ho.rd.1 m c8 HM.out; clear ho hb; obtain ⟨e20, e21, e22⟩ := Bk.three KT.out))
            | (go_at_call 18; ((with_reducible refine (ck w8).mono ?_); rintro e' wk ⟨rfl, hb⟩; have SK := hid_ (TakeS.below_ ST.out hb); have KP9 := hid_ (KT.out.below hb KT.out.lt); clear hb)))
          have hnp := hnp0
          refine region_byJF [95, 96, 97, 98, 99, 13] (fun W => Untouched [gi] wk W) (fun _ _ => True) (fun j v _ => CmR gi np p.num j v) (fun D _ W => CmJ gi (flatS (ps.drop k)) (flatS (ps.drop (k + 1))) Fi D W) (by kernel_rfl) (by kernel_rfl) (by kernel_rfl) (by kernel_rfl) (fun j v w w' hT hr => ?_) (fun j v w hlt hj _ => ?_) (Untouched.drewN 1) ?_ ⟨fun _ => SK.out.1.apart (G := []) (Untouched.drewN 1) fun _ _ => by simp, fun e => Bool.noConfusion e⟩ ?_
          · exact hr
          · rcases j with _ | _ | _ | _ | _ | _ | j
            all_goals first
              | (exfalso; simp [dstOf] at hj; done)
              | trivial
          · refine ⟨fun D a W hC hd hsz hf hv hJ hL hW K hK => ?_, fun D a W hC hd hsz hf hv hJ hL hW K hK => ?_, fun D a W hC hd hsz hf hv hJ hL hW K hK => ?_, fun D a W hC hd hsz hf hv hJ hL hW K hK => ?_, fun D a W hC hd hsz hf hv hJ hL hW K hK => ?_, fun D a W hC hd hsz hf hv hJ hL hW K hK => ?_, trivial⟩
            · clear hsz
              have e1 := slot_of (a := a) (s := 9) (v := .pointer (some ⟨gi, 0, none⟩)) (hf 9 (by kernel_rfl))
              refine step_run (wanted_none rfl) (v := .pointer (some ⟨gi, 0, none⟩)) (w' := W) ?_ (hK _ _ hC trivial rfl (hJ.same 0 (by decide)))
              go_simp
            · clear hsz
              have e1 := slot_of (a := a) (s := 95) (v := .pointer (some ⟨gi, 0, none⟩)) (hv 0 (by kernel_rfl))
              have cp := take0 W gi Fi p (flatS (ps.drop (k + 1))) e HG.out n1 (by rw [← HDR.out]; exact hJ.1 hL)
              refine step_callx 21 #[.pointer (some ⟨gi, 0, none⟩), .int .i64 9223372036854775807] (wanted_none rfl) (w' := W) ?_ (cp.mono fun e W2 hh => ?_)
              · go_simp
              · obtain ⟨rfl, hI, hU⟩ := hh
                exact ⟨_, rfl, hK _ _ (hC.trans (Grew.refl _ _) hU) trivial rfl (hJ.take hI)⟩
            · clear hsz
              have e1 := slot_of (a := a) (s := 11) (v := .pointer (some ⟨np, 0, none⟩)) (hf 11 (by kernel_rfl))
              refine step_run (wanted_none rfl) (v := .pointer (some ⟨np, 1, none⟩)) (w' := W) ?_ (hK _ _ hC trivial rfl (hJ.same 2 (by decide)))
              go_simp
            · clear hsz
              have e1 := slot_of (a := a) (s := 97) (v := .pointer (some ⟨np, 1, none⟩)) (hv 2 (by kernel_rfl))
              have kW := KP9.out.untouched hC (by simpa using hnp)
              obtain ⟨q0, q1, q2⟩ := Bk.three kW
              refine step_run (wanted_none rfl) (v := .int .i64 p.num) (w' := W) ?_ (hK _ _ hC trivial rfl (hJ.same 3 (by decide)))
              go_simp
            · clear hsz
              have e1 := slot_of (a := a) (s := 96) (v := .int .i64 p.num) (hv 1 (by kernel_rfl))
              have e2 := slot_of (a := a) (s := 98) (v := .int .i64 p.num) (hv 3 (by kernel_rfl))
              refine step_run (wanted_none rfl) (v := .bool true) (w' := W) ?_ (hK _ _ hC trivial rfl (hJ.same 4 (by decide)))
              go_simp
            · clear hsz
              have e1 := slot_of (a := a) (s := 99) (v := .bool true) (hv 4 (by kernel_rfl))
              refine step_run (wanted_none rfl) (v := .bool true) (w' := W) ?_ (hK _ _ hC trivial rfl (hJ.same 5 (by decide)))
              go_simp
          · intro f w6 hC6 hv6 D6 hD6 hJ6
            obtain ⟨a6, hJ, -⟩ := hJ6
            have S6 := hid_ (TakeS.next SK.out (hJ.2 (hD6 1 (by decide))) hC6)
            have e13 : f 13 = .bool true := hv6 5 (by decide)
            simp only [framed, List.foldl_cons, List.foldl_nil, List.setIfInBounds_toArray, List.set_cons_succ, List.set_cons_zero]
            rw [e13]
            clear hv6 hD6 hJ hC6
            go_wp2
            go_roundw
            case rel => exact ⟨k + 1, by omega, by go_num, S6⟩
            case measure => simp [intOf]; omega
        · go_upto_region 24 with (first
            | (go_at_call 20; ((with_reducible refine ct.mono ?_); rintro e' w8 ⟨A8, c8, rfl, ho, hb⟩; have ST := hid_ (TakeS.below_ SP.out hb); have KT := hid_ (KP.out.below hb KP.out.lt); have cv := conv_strn ho.rd.1 m c8 HM.out; clear ho hb; obtain ⟨e20, e21, e22⟩ := Bk.three KT.out))
            | (go_at_call 18; ((with_reducible refine (ck w8).mono ?_); rintro e' wk ⟨rfl, hb⟩; have SK := hid_ (TakeS.below_ ST.out hb); have KP9 := hid_ (KT.out.below hb KT.out.lt); clear hb)))
          have hnp := hnp0
          refine region_byJF [102, 103, 104, 105, 106, 13] (fun W => Untouched [gi] wk W) (fun _ _ => True) (fun j v _ => CmR gi np p.num j v) (fun D _ W => CmJ gi (flatS (ps.drop k)) (flatS (ps.drop (k + 1))) Fi D W) (by kernel_rfl) (by kernel_rfl) (by kernel_rfl) (by kernel_rfl) (fun j v w w' hT hr => ?_) (fun j v w hlt hj _ => ?_) (Untouched.drewN 1) ?_ ⟨fun _ => SK.out.1.apart (G := []) (Untouched.drewN 1) fun _ _ => by simp, fun e => Bool.noConfusion e⟩ ?_
          · exact hr
          · rcases j with _ | _ | _ | _ | _ | _ | j
            all_goals first
              | (exfalso; simp [dstOf] at hj; done)
              | trivial
          · refine ⟨fun D a W hC hd hsz hf hv hJ hL hW K hK => ?_, fun D a W hC hd hsz hf hv hJ hL hW K hK => ?_, fun D a W hC hd hsz hf hv hJ hL hW K hK => ?_, fun D a W hC hd hsz hf hv hJ hL hW K hK => ?_, fun D a W hC hd hsz hf hv hJ hL hW K hK => ?_, fun D a W hC hd hsz hf hv hJ hL hW K hK => ?_, trivial⟩
            · clear hsz
              have e1 := slot_of (a := a) (s := 9) (v := .pointer (some ⟨gi, 0, none⟩)) (hf 9 (by kernel_rfl))
              refine step_run (wanted_none rfl) (v := .pointer (some ⟨gi, 0, none⟩)) (w' := W) ?_ (hK _ _ hC trivial rfl (hJ.same 0 (by decide)))
              go_simp
            · clear hsz
              have e1 := slot_of (a := a) (s := 102) (v := .pointer (some ⟨gi, 0, none⟩)) (hv 0 (by kernel_rfl))
              have cp := take1 W gi Fi p (flatS (ps.drop (k + 1))) e HG.out (by rw [← HDR.out]; exact hJ.1 hL)
              refine step_callx 22 #[.pointer (some ⟨gi, 0, none⟩), .int .i64 255] (wanted_none rfl) (w' := W) ?_ (cp.mono fun e W2 hh => ?_)
              · go_simp
              · obtain ⟨rfl, hI, hU⟩ := hh
                exact ⟨_, rfl, hK _ _ (hC.trans (Grew.refl _ _) hU) trivial rfl (hJ.take hI)⟩
            · clear hsz
              have e1 := slot_of (a := a) (s := 11) (v := .pointer (some ⟨np, 0, none⟩)) (hf 11 (by kernel_rfl))
              refine step_run (wanted_none rfl) (v := .pointer (some ⟨np, 1, none⟩)) (w' := W) ?_ (hK _ _ hC trivial rfl (hJ.same 2 (by decide)))
              go_simp
            · clear hsz
              have e1 := slot_of (a := a) (s := 104) (v := .pointer (some ⟨np, 1, none⟩)) (hv 2 (by kernel_rfl))
              have kW := KP9.out.untouched hC (by simpa using hnp)
              obtain ⟨q0, q1, q2⟩ := Bk.three kW
              refine step_run (wanted_none rfl) (v := .int .i64 p.num) (w' := W) ?_ (hK _ _ hC trivial rfl (hJ.same 3 (by decide)))
              go_simp
            · clear hsz
              have e1 := slot_of (a := a) (s := 103) (v := .int .i64 p.num) (hv 1 (by kernel_rfl))
              have e2 := slot_of (a := a) (s := 105) (v := .int .i64 p.num) (hv 3 (by kernel_rfl))
              refine step_run (wanted_none rfl) (v := .bool true) (w' := W) ?_ (hK _ _ hC trivial rfl (hJ.same 4 (by decide)))
              go_simp
            · clear hsz
              have e1 := slot_of (a := a) (s := 106) (v := .bool true) (hv 4 (by kernel_rfl))
              refine step_run (wanted_none rfl) (v := .bool true) (w' := W) ?_ (hK _ _ hC trivial rfl (hJ.same 5 (by decide)))
              go_simp
          · intro f w6 hC6 hv6 D6 hD6 hJ6
            obtain ⟨a6, hJ, -⟩ := hJ6
            have S6 := hid_ (TakeS.next SK.out (hJ.2 (hD6 1 (by decide))) hC6)
            have e13 : f 13 = .bool true := hv6 5 (by decide)
            simp only [framed, List.foldl_cons, List.foldl_nil, List.setIfInBounds_toArray, List.set_cons_succ, List.set_cons_zero]
            rw [e13]
            clear hv6 hD6 hJ hC6
            go_wp2
            go_roundw
            case rel => exact ⟨k + 1, by omega, by go_num, S6⟩
            case measure => simp [intOf]; omega
        · have tk := fun (W : World) (h : InF W gi ((partS p).1 ++ flatS (ps.drop (k + 1))) 0 Fi) => take2 W gi m Fi p (flatS (ps.drop (k + 1))) e HM.out (by rw [← HDR.out]; exact HLEN.out) h
          go_wp2_with (first
            | (go_at_call 20; ((with_reducible refine ct.mono ?_); rintro e' w8 ⟨A8, c8, rfl, ho, hb⟩; have ST := hid_ (TakeS.below_ SP.out hb); have KT := hid_ (KP.out.below hb KP.out.lt); have cv := conv_strn ho.rd.1 m c8 HM.out; clear ho hb; obtain ⟨e20, e21, e22⟩ := Bk.three KT.out))
            | (go_at_call 18; ((with_reducible refine (ck w8).mono ?_); rintro e' wk ⟨rfl, hb⟩; have SK := hid_ (TakeS.below_ ST.out hb); have KP9 := hid_ (KT.out.below hb KT.out.lt); clear hb))
            | (go_at_call 23; have cp := tk wk (by rw [← HDR.out]; exact SK.out.1); ((with_reducible refine cp.mono ?_); clear cp; rintro e' w9 ⟨⟨A9, c9, rfl, hO9⟩, hI9, hU9⟩; have S9 := hid_ (TakeS.next SK.out hI9 hU9); have cv9 := conv_strn hO9.rd.1 m c9 HM.out; clear hO9 hI9 hU9)))
          go_roundw
          case rel => exact ⟨k + 1, by omega, by go_num, S9⟩
          case measure => simp [intOf]; omega
        · have tk := fun (W : World) (h : InF W gi ((partS p).1 ++ flatS (ps.drop (k + 1))) 0 Fi) => take3 W gi m Fi p (flatS (ps.drop (k + 1))) e HM.out (by rw [← HDR.out]; exact HLEN.out) h
          go_wp2_with (first
            | (go_at_call 20; ((with_reducible refine ct.mono ?_); rintro e' w8 ⟨A8, c8, rfl, ho, hb⟩; have ST := hid_ (TakeS.below_ SP.out hb); have KT := hid_ (KP.out.below hb KP.out.lt); have cv := conv_strn ho.rd.1 m c8 HM.out; clear ho hb; obtain ⟨e20, e21, e22⟩ := Bk.three KT.out))
            | (go_at_call 18; ((with_reducible refine (ck w8).mono ?_); rintro e' wk ⟨rfl, hb⟩; have SK := hid_ (TakeS.below_ ST.out hb); have KP9 := hid_ (KT.out.below hb KT.out.lt); clear hb))
            | (go_at_call 24; have cp := tk wk (by rw [← HDR.out]; exact SK.out.1); ((with_reducible refine cp.mono ?_); clear cp; rintro e' w9 ⟨⟨A9, c9, rfl, hO9⟩, hI9, hU9⟩; have S9 := hid_ (TakeS.next SK.out hI9 hU9); have cv9 := conv_strn hO9.rd.1 m c9 HM.out; clear hO9 hI9 hU9)))
          go_roundw
          case rel => exact ⟨k + 1, by omega, by go_num, S9⟩
          case measure => simp [intOf]; omega
      · have hd1 : decide ((k : Int) < (ps.length : Int)) = false := decide_eq_false (by omega)
        have hd2 : decide (k < ps.length) = false := decide_eq_false hk1
        obtain ⟨hI, _, _, _, hB⟩ := HS.out
        rw [List.drop_eq_nil_of_le (by omega)] at hI
        have ce := end_any wr gi (flatS []) 0 Fi hI
        rw [show endS (flatS []) 0 = 0 from rfl] at ce
        have HBB := hid_ hB
        clear hI hB HS
        go_wp2_with (go_at_call 25; ((with_reducible refine ce.mono ?_); rintro e w9 ⟨rfl, rfl⟩))
        go_ret
        exact ⟨rfl, HBB.out⟩

set_option maxRecDepth 100000 in
theorem lifted (os : Os) (started : os.Started) (H : Type) (enc : TypeId × Value → H) :
    ReturnsInHanded {} Try.checked os 4 .any (Rows.codecBackSpec.pre6 enc Try.prog Try.f4 Rows.codecBackRow.domain false) (Rows.codecBackSpec.post enc Try.prog Try.f4 false true false false) := by
  refine returnsInHanded_of_change (C := Try.checked) own_ started (by kernel_rfl) Try.func4
    (ChangeSpec.witness6 (enc := enc) (C := Try.checked) false ⟨#[], #[.slice none 0 0], []⟩ 8 (by kernel_rfl) (by kernel_rfl) (by kernel_rfl) (by kernel_rfl)) ?_
  intro W base args ds gs before hval0 hW hcnd _
  have hval : ∀ (j : Nat) t v, Try.f4.params[j]? = some t → args[j]? = some v → Value.okWide Try.prog W .any base t v := hval0
  have hW' := hW
  obtain ⟨p, q, hA0, hV, rfl, hfz, hnd⟩ := hW
  have hA : DataW.TrodAll enc Try.prog W 0 (fun _ => true) true Try.f4.params.toList args.toList ds p := hA0
  rw [Try.params4] at hA hval
  obtain ⟨v0, vs0, d0, ds0, p0, q0, hargs, rfl, rfl, h0, r0⟩ := trodAll_cons hA
  obtain ⟨rfl, rfl, rfl⟩ := trodAll_nil r0
  obtain rfl : args = #[v0] := by cases args; simp_all
  obtain ⟨rfl, rfl⟩ := trodVars_none hV
  obtain ⟨A0, l0, c0, rfl, hr0, hlc0, hcm0⟩ := open_pparts Try.underlying22 Try.underlying36 ⟨rfl, rfl⟩ ⟨rfl, rfl⟩ ⟨rfl, rfl⟩ Try.underlying3 (by kernel_rfl) Try.underlying24 (by kernel_rfl) Try.underlying5 (by kernel_rfl) (by kernel_rfl) (hval 0 22 v0 rfl rfl) h0
  refine (walk W A0 l0 c0 hr0 hlc0 (by unfold maxLen at hcm0; omega)).mono fun e W' ⟨he, hg⟩ => ⟨_, he, ?_⟩
  exact law_post laidOut_ (of_decide_eq_true (by kernel_rfl)) rfl rfl Try.underlying4 rfl hW' hg

theorem over : Rows.codecBackRow.holds Try.pinned (OpenSpec.ofChange Rows.codecBackSpec) :=
  OpenClaim.holds_of_wide 4 Try.f4 rfl rfl rfl rfl rfl rfl rfl ⟨rfl, rfl, rfl, rfl, rfl⟩ rfl rfl rfl rfl rfl (by kernel_rfl) Try.func4 (by kernel_rfl)
    (of_decide_eq_true (by kernel_rfl)) (by unfold Func.isWrapper; first | (rw [if_pos (by decide +kernel)]; kernel_rfl) | (rw [if_neg (by decide +kernel)]; exact ⟨rfl, rfl⟩))
    (fun os started H enc _ => lifted os started H enc)

theorem proved : Rows.CodecBackSaid := over
#print axioms proved
end Go.Proofs.Ytjfidfcfhdkciaa.codecBack
