/-
  Merged: G9 Ga Gb Gd Ge Gf.
-/
import Derived.Test.YtnlipmcnpekifaaG8
import Derived.Test.YtnlipmcnpekifaaLp
import Derived.Deep.Strs
import Derived.Deep.Slices
import Derived.Test.YtnlipmcnpekifaaBr
namespace Go.Proofs.Ytnlipmcnpekifaa
set_option maxRecDepth 100000
open Go.RowKit
set_option linter.unusedVariables false
set_option linter.unusedSimpArgs false

/-- What lies behind the document's In's pointer. -/
def RiF (w : World) (g : Nat) (l : List UInt8) (err : Int) : Prop := Bk w g 90 #[.string (strOf l), .int .i64 err]
theorem RiF.fail {w : World} {g : Nat} {l : List UInt8} {err : Int} (h : RiF w g l err) (e : Int) : RiF (w.setCell ⟨g, 1, none⟩ (.int .i64 e)) g l e ∧ Untouched [g] w (w.setCell ⟨g, 1, none⟩ (.int .i64 e)) :=
  ⟨h.set_ 1 _, Untouched.set g 1 (by simp) _⟩
theorem RiF.less {w : World} {g : Nat} {l : List UInt8} {err : Int} (h : RiF w g l err) (m : List UInt8) : RiF (w.setCell ⟨g, 0, none⟩ (.string (strOf m))) g m err ∧ Untouched [g] w (w.setCell ⟨g, 0, none⟩ (.string (strOf m))) :=
  ⟨h.set_ 0 _, Untouched.set g 0 (by simp) _⟩
theorem str_from (l : List UInt8) (n k : Nat) (hl : l.length = n) (hk : k ≤ n) (W : World) :
    (Instr.slice 9 (.string (strOf l)) (some (.int .i64 (k : Int))) none none).run Try.prog W = .ok (.string (strOf (l.drop k))) W := by
  have hs : (strOf l).size = n := by rw [strOf_size, hl]
  rw [run_slice_string_l W 9 (strOf l) Try.underlying9 .i64 (k : Int) (by omega) (by rw [hs]; omega), Int.toNat_natCast, hs, strOf_mid]
  congr 3
  exact List.take_of_length_le (by rw [List.length_drop]; omega)
theorem str_to (l : List UInt8) (n k : Nat) (hl : l.length = n) (hk : k ≤ n) (W : World) :
    (Instr.slice 9 (.string (strOf l)) none (some (.int .i64 (k : Int))) none).run Try.prog W = .ok (.string (strOf (l.take k))) W := by
  have hs : (strOf l).size = n := by rw [strOf_size, hl]
  rw [run_slice_string_h W 9 (strOf l) Try.underlying9 .i64 (k : Int) (by omega) (by rw [hs]; omega), Int.toNat_natCast, strOf_mid]
  rfl
theorem str_mid (l : List UInt8) (n a b : Nat) (hl : l.length = n) (hab : a ≤ b) (hb : b ≤ n) (W : World) :
    (Instr.slice 9 (.string (strOf l)) (some (.int .i64 (a : Int))) (some (.int .i64 (b : Int))) none).run Try.prog W = .ok (.string (strOf ((l.drop a).take (b - a)))) W := by
  have hs : (strOf l).size = n := by rw [strOf_size, hl]
  rw [run_slice_string_if W 9 (strOf l) .i64 .i64 _ _ Try.underlying9, if_pos (by rw [hs]; omega), if_pos (by omega), Int.toNat_natCast, Int.toNat_natCast, strOf_mid]

/-- The number ahead, that stays. -/
def RnP (w : World) (g size : Nat) (most : Int) (l : List UInt8) (e : Ending) (w' : World) : Prop :=
  e = .returned (.int .i64 (numS size most l 0).1) ∧ RiF w' g l (numS size most l 0).2.2 ∧ Untouched [g] w w'
set_option maxRecDepth 100000 in
set_option maxHeartbeats 2000000 in
theorem refnumber_any (w : World) (g size : Nat) (most : Int) (l : List UInt8) (h : RiF w g l 0) (hs8 : size ≤ 8) (w0 : -9223372036854775808 ≤ most) (w1 : most ≤ 9223372036854775807) :
    Calls Try.prog 72 #[.pointer (some ⟨g, 0, none⟩), .int .i64 (size : Int), .int .i64 most] w (RnP w g size most l) := by
  obtain ⟨n, hn⟩ : ∃ n, l.length = n := ⟨_, rfl⟩
  have hsz : (strOf l).size = n := by rw [strOf_size, hn]
  have hc0 := Bk.cell h 0
  have hc1 := Bk.cell h 1
  have hf1 := Bk.frozen h 1
  simp only [List.getElem?_toArray, List.getElem?_cons_zero, List.getElem?_cons_succ] at hc0 hc1
  have H := hidg_ h
  by_cases hl : n < size
  · have hd : decide ((n : Int) < (size : Int)) = true := decide_eq_true (by omega)
    have hd' : decide (n < size) = true := decide_eq_true hl
    have HF := hidg_ (h.fail 3)
    have HQ : Hid (numS size most l 0 = (0, l, 3)) := hidg_ (numS_short (by omega))
    clear h
    go_enter Try.func72, Try.ntmps72
    go_wp2
    go_ret
    refine ⟨?_, ?_, HF.out.2⟩ <;> rw [HQ.out]
    · rfl
    · exact HF.out.1
  · have hd : decide ((n : Int) < (size : Int)) = false := decide_eq_false (by omega)
    have hd' : decide (n < size) = false := decide_eq_false hl
    have s1 := fun W => str_to l n size hn (by omega) W
    obtain ⟨m, hm⟩ : ∃ m, Hid (l.take size = m) := ⟨_, hidg_ rfl⟩
    have hml : m.length = size := by rw [← hm.out, List.length_take]; omega
    rw [hm.out] at s1
    have c1 := fun W => refWord_high m size hml hs8 W
    have hlt := beN_lt m
    rw [hml] at hlt
    have hpow : (256 : Nat) ^ size ≤ 256 ^ 8 := Nat.pow_le_pow_right (by decide) hs8
    have h64 : (256 : Nat) ^ 8 = 18446744073709551616 := by decide
    obtain ⟨x, hx⟩ : ∃ x, Hid (beN m = x) := ⟨_, hidg_ rfl⟩
    have hx64 : x ≤ 18446744073709551615 := by rw [← hx.out]; omega
    rw [hx.out] at c1
    have HXM : Hid (beN (l.take size) = x) := hidg_ (by rw [hm.out, hx.out])
    clear hlt hpow h64
    by_cases hneg : most < 0
    · have hd2 : decide (most < 0) = true := decide_eq_true hneg
      have HF := hidg_ (h.fail 5)
      have HQ : Hid (numS size most l 0 = (0, l, 5)) := hidg_ (numS_big (by omega) (by omega))
      clear h hn
      go_enter Try.func72, Try.ntmps72
      go_wp2_with (go_at_call 76; ((with_reducible refine (c1 _).mono ?_); rintro e w' ⟨rfl, rfl⟩))
      go_ret
      refine ⟨?_, ?_, HF.out.2⟩ <;> rw [HQ.out]
      · rfl
      · exact HF.out.1
    · obtain ⟨p, rfl⟩ : ∃ p : Nat, most = (p : Int) := ⟨most.toNat, by omega⟩
      have hd2 : decide ((p : Int) < 0) = false := decide_eq_false hneg
      have hwp : IntKind.u64.wrap (p : Int) = (p : Int) := IntWalk.u64_in _ (by omega)
      by_cases hbig : p < x
      · have hd3 : decide ((p : Int) < (x : Int)) = true := decide_eq_true (by omega)
        have hd4 : decide (p < x) = true := decide_eq_true hbig
        have HF := hidg_ (h.fail 5)
        have HQ : Hid (numS size (p : Int) l 0 = (0, l, 5)) := hidg_ (numS_big (by omega) (by rw [HXM.out]; omega))
        clear h hn
        go_enter Try.func72, Try.ntmps72
        go_wp2_with (go_at_call 76; ((with_reducible refine (c1 _).mono ?_); rintro e w' ⟨rfl, rfl⟩))
        go_ret
        refine ⟨?_, ?_, HF.out.2⟩ <;> rw [HQ.out]
        · rfl
        · exact HF.out.1
      · have hd3 : decide ((p : Int) < (x : Int)) = false := decide_eq_false (by omega)
        have hd4 : decide (p < x) = false := decide_eq_false hbig
        have hwx : IntKind.i64.wrap (x : Int) = (x : Int) := IntWalk.i64_in _ (by omega)
        have HQ : Hid (numS size (p : Int) l 0 = ((x : Int), l.drop size, 0)) := hidg_ (by rw [numS_yes (by omega) (by rw [HXM.out]; omega), HXM.out])
        clear h hn
        go_enter Try.func72, Try.ntmps72
        go_wp2_with (go_at_call 76; ((with_reducible refine (c1 _).mono ?_); rintro e w' ⟨rfl, rfl⟩))
        go_ret
        refine ⟨?_, ?_, Untouched.refl _ _⟩ <;> rw [HQ.out]
        · rfl
        · exact H.out
/-- A number taken. -/
def RtP (w : World) (g size : Nat) (most : Int) (l : List UInt8) (err : Int) (e : Ending) (w' : World) : Prop :=
  e = .returned (.int .i64 (numS size most l err).1) ∧ RiF w' g (numS size most l err).2.1 (numS size most l err).2.2 ∧ Untouched [g] w w'
theorem numS_err (size : Nat) (most : Int) (l : List UInt8) : (numS size most l 0).2.2 ≠ 0 ∧ (numS size most l 0).2.1 = l ∨ (numS size most l 0).2.2 = 0 ∧ (numS size most l 0).2.1 = l.drop size ∧ size ≤ l.length := by
  unfold numS
  rw [if_neg (by decide)]
  split
  · exact .inl ⟨by show (3 : Int) ≠ 0; decide, rfl⟩
  · split
    · exact .inl ⟨by show (5 : Int) ≠ 0; decide, rfl⟩
    · exact .inr ⟨rfl, rfl, by omega⟩
set_option maxRecDepth 100000 in
set_option maxHeartbeats 2000000 in
theorem reftake_any (w : World) (g size : Nat) (most : Int) (l : List UInt8) (err : Int) (h : RiF w g l err) (hs8 : size ≤ 8) (w0 : -9223372036854775808 ≤ most) (w1 : most ≤ 9223372036854775807) :
    Calls Try.prog 61 #[.pointer (some ⟨g, 0, none⟩), .int .i64 (size : Int), .int .i64 most] w (RtP w g size most l err) := by
  have hc1 := Bk.cell h 1
  simp only [List.getElem?_toArray, List.getElem?_cons_zero, List.getElem?_cons_succ] at hc1
  by_cases he : err = 0
  case neg =>
    have hd : (err != 0) = true := by simpa using he
    have H := hidg_ h
    have HE := hidg_ he
    clear he h
    go_enter Try.func61, Try.ntmps61
    go_wp2
    go_ret
    refine ⟨?_, ?_, Untouched.refl _ _⟩ <;> rw [numS_off HE.out]
    · rfl
    · exact H.out
  subst he
  have c1 := refnumber_any w g size most l h hs8 w0 w1
  have hcase := numS_err size most l
  unfold RnP at c1
  have HQ : Hid (numS size most l 0 = numS size most l 0) := hidg_ rfl
  unfold RtP
  generalize numS size most l 0 = S at *
  obtain ⟨x, l2, e2⟩ := S
  simp only at c1 hcase ⊢
  rcases hcase with ⟨hne, rfl⟩ | ⟨rfl, rfl, hle⟩
  · have hd : (e2 == 0) = false := by simpa using hne
    clear hne h
    go_enter Try.func61, Try.ntmps61
    go_wp2_with (go_at_call 72; ((with_reducible refine c1.mono ?_); rintro e w' ⟨rfl, hR, hU⟩; have hcc := Bk.cell hR 1; simp only [List.getElem?_toArray, List.getElem?_cons_zero, List.getElem?_cons_succ] at hcc; have HR := hidg_ hR; have HU := hidg_ hU; clear hR hU))
    go_ret
    exact ⟨rfl, HR.out, HU.out⟩
  · have s1 := fun W => str_from l l.length size rfl hle W
    clear h hle
    go_enter Try.func61, Try.ntmps61
    go_wp2_with (go_at_call 72; ((with_reducible refine c1.mono ?_); rintro e w' ⟨rfl, hR, hU⟩; have hcc := Bk.cell hR 1; have hc0 := Bk.cell hR 0; have hf0 := Bk.frozen hR 0; simp only [List.getElem?_toArray, List.getElem?_cons_zero, List.getElem?_cons_succ] at hcc hc0; have HR := hidg_ (hR.less (l.drop size)); have HU := hidg_ hU; clear hR hU))
    go_ret
    exact ⟨rfl, HR.out.1, HU.out.trans (Grew.refl _ _) HR.out.2⟩
set_option maxRecDepth 100000 in
set_option maxHeartbeats 1000000 in
theorem refnum_any (w : World) (g : Nat) (most : Int) (l : List UInt8) (err : Int) (h : RiF w g l err) (w0 : -9223372036854775808 ≤ most) (w1 : most ≤ 9223372036854775807) :
    Calls Try.prog 42 #[.pointer (some ⟨g, 0, none⟩), .int .i64 most] w (RtP w g 8 most l err) := by
  have c1 : Calls Try.prog 61 #[.pointer (some ⟨g, 0, none⟩), .int .i64 8, .int .i64 most] w (RtP w g 8 most l err) := reftake_any w g 8 most l err h (by omega) w0 w1
  go_enter Try.func42, Try.ntmps42
  go_wp2_with (go_at_call 61; ((with_reducible refine c1.mono ?_); rintro e w4 ⟨rfl, hI4, hU4⟩))
  go_ret
  exact ⟨rfl, hI4, hU4⟩
set_option maxRecDepth 100000 in
set_option maxHeartbeats 1000000 in
theorem refsmall_any (w : World) (g : Nat) (most : Int) (l : List UInt8) (err : Int) (h : RiF w g l err) (w0 : -9223372036854775808 ≤ most) (w1 : most ≤ 9223372036854775807) :
    Calls Try.prog 41 #[.pointer (some ⟨g, 0, none⟩), .int .i64 most] w (RtP w g 1 most l err) := by
  have c1 : Calls Try.prog 61 #[.pointer (some ⟨g, 0, none⟩), .int .i64 1, .int .i64 most] w (RtP w g 1 most l err) := reftake_any w g 1 most l err h (by omega) w0 w1
  go_enter Try.func41, Try.ntmps41
  go_wp2_with (go_at_call 61; ((with_reducible refine c1.mono ?_); rintro e w4 ⟨rfl, hI4, hU4⟩))
  go_ret
  exact ⟨rfl, hI4, hU4⟩
/-- Bytes taken. -/
def RfP (w : World) (g : Nat) (n : Int) (l : List UInt8) (err : Int) (e : Ending) (w' : World) : Prop :=
  e = .returned (.string (strOf (fixS n l err).1)) ∧ RiF w' g (fixS n l err).2.1 (fixS n l err).2.2 ∧ Untouched [g] w w'
set_option maxRecDepth 100000 in
set_option maxHeartbeats 2000000 in
theorem reffixed_any (w : World) (g : Nat) (n : Int) (l : List UInt8) (err : Int) (h : RiF w g l err) (w0 : -9223372036854775808 ≤ n) (w1 : n ≤ 9223372036854775807) :
    Calls Try.prog 44 #[.pointer (some ⟨g, 0, none⟩), .int .i64 n] w (RfP w g n l err) := by
  obtain ⟨z, hz⟩ : ∃ z, l.length = z := ⟨_, rfl⟩
  have hsz : (strOf l).size = z := by rw [strOf_size, hz]
  have hc0 := Bk.cell h 0
  have hc1 := Bk.cell h 1
  have hf1 := Bk.frozen h 1
  have hf0 := Bk.frozen h 0
  simp only [List.getElem?_toArray, List.getElem?_cons_zero, List.getElem?_cons_succ] at hc0 hc1
  have H := hidg_ h
  have hemp : Hid (strOf [] = { data := #[] }) := hidg_ rfl
  by_cases he : err = 0
  case neg =>
    have hd : (err != 0) = true := by simpa using he
    have HQ : Hid (fixS n l err = ([], l, err)) := hidg_ (fixS_off (.inl he))
    clear he h
    go_enter Try.func44, Try.ntmps44
    go_wp2
    go_ret
    refine ⟨?_, ?_, Untouched.refl _ _⟩ <;> rw [HQ.out]
    · rfl
    · exact H.out
  subst he
  by_cases hneg : n < 0
  · have hd2 : decide (n < 0) = true := decide_eq_true hneg
    have HQ : Hid (fixS n l 0 = ([], l, 0)) := hidg_ (fixS_off (.inr (by omega)))
    clear h hneg
    go_enter Try.func44, Try.ntmps44
    go_wp2
    go_ret
    refine ⟨?_, ?_, Untouched.refl _ _⟩ <;> rw [HQ.out]
    · rfl
    · exact H.out
  obtain ⟨k, rfl⟩ : ∃ k : Nat, n = (k : Int) := ⟨n.toNat, by omega⟩
  have hd2 : decide ((k : Int) < 0) = false := decide_eq_false hneg
  by_cases hl : z < k
  · have hd3 : decide ((z : Int) < (k : Int)) = true := decide_eq_true (by omega)
    have hd4 : decide (z < k) = true := decide_eq_true hl
    have HF := hidg_ (h.fail 3)
    have HQ : Hid (fixS (k : Int) l 0 = ([], l, 3)) := hidg_ (fixS_short (by omega) (by omega))
    clear h hz
    go_enter Try.func44, Try.ntmps44
    go_wp2
    go_ret
    refine ⟨?_, ?_, HF.out.2⟩ <;> rw [HQ.out]
    · rfl
    · exact HF.out.1
  · have hd3 : decide ((z : Int) < (k : Int)) = false := decide_eq_false (by omega)
    have hd4 : decide (z < k) = false := decide_eq_false hl
    have s1 := fun W => str_to l z k hz (by omega) W
    have s2 := fun W => str_from l z k hz (by omega) W
    have HF := hidg_ (h.less (l.drop k))
    have HQ : Hid (fixS (k : Int) l 0 = (l.take k, l.drop k, 0)) := hidg_ (by
      by_cases hk : k = 0
      · subst hk
        rw [fixS_off (.inr (by omega))]
        rfl
      · exact fixS_yes (by omega) (by omega))
    clear h hz
    go_enter Try.func44, Try.ntmps44
    go_wp2
    go_ret
    refine ⟨?_, ?_, HF.out.2⟩ <;> rw [HQ.out]
    · rfl
    · exact HF.out.1
/-- Bytes with their count ahead: the answer and the error as the code's; what is left as the code's if there is no error. -/
def RbP (w : World) (g : Nat) (s : List UInt8) (l : List UInt8) (err : Int) (e : Ending) (w' : World) : Prop :=
  e = .returned (.string (strOf s)) ∧ (∃ l', RiF w' g l' err ∧ (err = 0 → l' = l)) ∧ Untouched [g] w w'
def bytS (most : Int) (l : List UInt8) (err : Int) : List UInt8 × List UInt8 × Int := fixS (numS 4 most l err).1 (numS 4 most l err).2.1 (numS 4 most l err).2.2
set_option maxRecDepth 100000 in
set_option maxHeartbeats 2000000 in
theorem refend_any (w : World) (g : Nat) (l : List UInt8) (err : Int) (h : RiF w g l err) :
    Calls Try.prog 46 #[.pointer (some ⟨g, 0, none⟩)] w fun e w' => e = .returned (.int .i64 (endS l err)) ∧ w = w' := by
  have hc0 := Bk.cell h 0
  have hc1 := Bk.cell h 1
  simp only [List.getElem?_toArray, List.getElem?_cons_zero, List.getElem?_cons_succ] at hc0 hc1
  clear h
  have hemp : strOf [] = { data := #[] } := rfl
  by_cases he : err = 0
  · subst he
    by_cases hl : l = []
    · have hst : (strOf l).toList.isEmpty = true := by rw [strOf_toList, hl]; rfl
      have hE : Hid (endS l 0 = 0) := hidg_ (by rw [hl]; rfl)
      clear hemp hl
      go_enter Try.func46, Try.ntmps46
      go_wp2
      go_ret
      exact ⟨by rw [hE.out]; rfl, rfl⟩
    · have hst : (strOf l).toList.isEmpty = false := by rw [strOf_toList]; simpa using hl
      have hE : Hid (endS l 0 = 4) := hidg_ (by
        have : 0 < l.length := Nat.pos_of_ne_zero fun e => hl (List.eq_nil_of_length_eq_zero e)
        simp [endS, this])
      clear hemp hl
      go_enter Try.func46, Try.ntmps46
      go_wp2
      go_ret
      exact ⟨by rw [hE.out]; rfl, rfl⟩
  · have hd : (err == 0) = false := by simpa using he
    have hE : Hid (endS l err = err) := hidg_ (if_pos he)
    clear he hemp
    go_enter Try.func46, Try.ntmps46
    go_wp2
    go_ret
    exact ⟨by rw [hE.out]; rfl, rfl⟩
theorem numS_big32 (most : Int) (l : List UInt8) (h : (numS 4 most l 0).2.2 = 0) : ∃ k : Nat, (numS 4 most l 0).1 = (k : Int) ∧ k ≤ 4294967295 := by
  unfold numS at h ⊢
  rw [if_neg (by decide)] at h ⊢
  split at h
  · cases h
  · rename_i h1
    rw [if_neg h1]
    split at h
    · cases h
    · rename_i h2
      rw [if_neg h2]
      refine ⟨_, rfl, ?_⟩
      have h3 := beN_lt (l.take 4)
      have h4 : (l.take 4).length = 4 := by rw [List.length_take]; omega
      rw [h4] at h3
      have : (256 : Nat) ^ 4 = 4294967296 := by decide
      omega
set_option maxRecDepth 100000 in
set_option maxHeartbeats 2000000 in
theorem refbytes_any (w : World) (g : Nat) (most : Int) (l : List UInt8) (err : Int) (h : RiF w g l err) (hm : err = 0 → l.length ≤ 140737488355328) (w0 : -9223372036854775808 ≤ most) (w1 : most ≤ 9223372036854775807) :
    Calls Try.prog 62 #[.pointer (some ⟨g, 0, none⟩), .int .i64 most] w (RbP w g (bytS most l err).1 (bytS most l err).2.1 (bytS most l err).2.2) := by
  have hc1 := Bk.cell h 1
  simp only [List.getElem?_toArray, List.getElem?_cons_zero, List.getElem?_cons_succ] at hc1
  by_cases he : err = 0
  case neg =>
    have hd : (err != 0) = true := by simpa using he
    have H := hidg_ h
    have HQ : Hid (bytS most l err = ([], l, err)) := hidg_ (by unfold bytS; rw [numS_off he]; exact fixS_off (.inl he))
    clear he h
    go_enter Try.func62, Try.ntmps62
    go_wp2
    go_ret
    rw [HQ.out]
    exact ⟨rfl, ⟨l, H.out, fun _ => rfl⟩, Untouched.refl _ _⟩
  subst he
  have hm := hm rfl
  have c1 : Calls Try.prog 72 #[.pointer (some ⟨g, 0, none⟩), .int .i64 4, .int .i64 most] w (RnP w g 4 most l) := refnumber_any w g 4 most l h (by omega) w0 w1
  have hcase := numS_err 4 most l
  have h32 := numS_big32 most l
  unfold RnP at c1
  unfold bytS
  generalize numS 4 most l 0 = S at *
  obtain ⟨x, l2, e2⟩ := S
  simp only at c1 hcase h32 ⊢
  rcases hcase with ⟨hne, rfl⟩ | ⟨rfl, rfl, hle⟩
  · have hd : (e2 != 0) = true := by simpa using hne
    have HQ : Hid (fixS x l2 e2 = ([], l2, e2)) := hidg_ (fixS_off (.inl hne))
    clear hne h h32
    go_enter Try.func62, Try.ntmps62
    go_wp2_with (go_at_call 72; ((with_reducible refine c1.mono ?_); rintro e w' ⟨rfl, hR, hU⟩; have hcc := Bk.cell hR 1; simp only [List.getElem?_toArray, List.getElem?_cons_zero, List.getElem?_cons_succ] at hcc; have HR := hidg_ hR; have HU := hidg_ hU; clear hR hU))
    go_ret
    rw [HQ.out]
    exact ⟨rfl, ⟨l2, HR.out, fun _ => rfl⟩, HU.out⟩
  · obtain ⟨k, rfl, hk⟩ := h32 rfl
    clear h32
    obtain ⟨z, hz⟩ : ∃ z, l.length = z := ⟨_, rfl⟩
    have hsz : (strOf l).size = z := by rw [strOf_size, hz]
    have hz4 : 4 ≤ z := by omega
    rw [hz] at hm
    obtain ⟨y, hy⟩ : ∃ y, y + 4 = z := ⟨z - 4, by omega⟩
    have hwy : IntKind.i64.wrap ((z : Int) - 4) = (y : Int) := by rw [IntWalk.i64_in _ (by omega)]; omega
    have hdl : (l.drop 4).length = y := by rw [List.length_drop, hz]; omega
    by_cases hl : y < k
    · have hd3 : decide ((y : Int) < (k : Int)) = true := decide_eq_true (by omega)
      have hd4 : decide (y < k) = true := decide_eq_true hl
      have HQ : Hid (fixS (k : Int) (l.drop 4) 0 = ([], l.drop 4, 3)) := hidg_ (fixS_short (by omega) (by omega))
      clear h hz hle hy hdl
      go_enter Try.func62, Try.ntmps62
      go_wp2_with (go_at_call 72; ((with_reducible refine c1.mono ?_); rintro e w' ⟨rfl, hR, hU⟩; have hcc := Bk.cell hR 1; have hc0 := Bk.cell hR 0; have hf1 := Bk.frozen hR 1; simp only [List.getElem?_toArray, List.getElem?_cons_zero, List.getElem?_cons_succ] at hcc hc0; have HR := hidg_ (hR.fail 3); have HU := hidg_ hU; clear hR hU))
      go_ret
      rw [HQ.out]
      exact ⟨rfl, ⟨l, HR.out.1, fun e => by cases e⟩, HU.out.trans (Grew.refl _ _) HR.out.2⟩
    · have hd3 : decide ((y : Int) < (k : Int)) = false := decide_eq_false (by omega)
      have hd4 : decide (y < k) = false := decide_eq_false hl
      obtain ⟨q, hq⟩ : ∃ q, 4 + k = q := ⟨_, rfl⟩
      have hwq : IntKind.i64.wrap (4 + (k : Int)) = (q : Int) := by rw [IntWalk.i64_in _ (by omega)]; omega
      have s1 : ∀ W : World, (Instr.slice 9 (.string (strOf l)) (some (.int .i64 4)) (some (.int .i64 (q : Int))) none).run Try.prog W = .ok (.string (strOf ((l.drop 4).take k))) W := fun W => by
        have h1 := str_mid l z 4 q hz (by omega) (by omega) W
        rw [show q - 4 = k by omega] at h1
        exact h1
      have s2 : ∀ W : World, (Instr.slice 9 (.string (strOf l)) (some (.int .i64 (q : Int))) none none).run Try.prog W = .ok (.string (strOf ((l.drop 4).drop k))) W := fun W => by
        have h1 := str_from l z q hz (by omega) W
        rw [List.drop_drop, hq]
        exact h1
      have HQ : Hid (fixS (k : Int) (l.drop 4) 0 = ((l.drop 4).take k, (l.drop 4).drop k, 0)) := hidg_ (by
        by_cases hk : k = 0
        · subst hk
          rw [fixS_off (.inr (by omega))]
          rfl
        · exact fixS_yes (by omega) (by omega))
      generalize (l.drop 4).take k = Y1 at *
      generalize (l.drop 4).drop k = Y2 at *
      clear h hz hle hy hdl hq
      go_enter Try.func62, Try.ntmps62
      go_wp2_with (go_at_call 72; ((with_reducible refine c1.mono ?_); rintro e w' ⟨rfl, hR, hU⟩; have hcc := Bk.cell hR 1; have hc0 := Bk.cell hR 0; have hf0 := Bk.frozen hR 0; simp only [List.getElem?_toArray, List.getElem?_cons_zero, List.getElem?_cons_succ] at hcc hc0; have HR := hidg_ (hR.less Y2); have HU := hidg_ hU; clear hR hU))
      go_ret
      rw [HQ.out]
      exact ⟨rfl, ⟨Y2, HR.out.1, fun _ => rfl⟩, HU.out.trans (Grew.refl _ _) HR.out.2⟩
end Go.Proofs.Ytnlipmcnpekifaa

namespace Go.Proofs.Ytnlipmcnpekifaa
set_option maxRecDepth 100000
open Go.RowKit
set_option linter.unusedVariables false
set_option linter.unusedSimpArgs false

set_option maxRecDepth 100000 in
set_option maxHeartbeats 1000000 in
theorem has_nil (w : World) (n : Int) : Calls Try.prog 68 #[.pointer none, .int .i64 n] w fun e w' => e = .returned (.bool false) ∧ w = w' := by
  go_enter Try.func68, Try.ntmps68
  go_wp2
  go_ret
  exact ⟨rfl, rfl⟩
set_option maxRecDepth 100000 in
set_option maxHeartbeats 1000000 in
theorem number_nil (w : World) (n m : Int) : Calls Try.prog 58 #[.pointer none, .int .i64 n, .int .i64 m] w fun e w' => e = .returned (.int .i64 0) ∧ w = w' := by
  have c1 := has_nil w n
  go_enter Try.func58, Try.ntmps58
  go_wp2_with (go_at_call 68; ((with_reducible refine c1.mono ?_); rintro e w' ⟨rfl, rfl⟩))
  go_ret
  exact ⟨rfl, rfl⟩
set_option maxRecDepth 100000 in
set_option maxHeartbeats 1000000 in
theorem innum_nil (w : World) (m : Int) : Calls Try.prog 33 #[.pointer none, .int .i64 m] w fun e w' => e = .returned (.int .i64 0) ∧ w = w' := by
  have c1 := number_nil w 8 m
  go_enter Try.func33, Try.ntmps33
  go_wp2_with (go_at_call 58; ((with_reducible refine c1.mono ?_); rintro e w' ⟨rfl, rfl⟩))
  go_ret
  exact ⟨rfl, rfl⟩
set_option maxRecDepth 100000 in
set_option maxHeartbeats 1000000 in
theorem insmall_nil (w : World) (m : Int) : Calls Try.prog 32 #[.pointer none, .int .i64 m] w fun e w' => e = .returned (.int .i64 0) ∧ w = w' := by
  have c1 := number_nil w 1 m
  go_enter Try.func32, Try.ntmps32
  go_wp2_with (go_at_call 58; ((with_reducible refine c1.mono ?_); rintro e w' ⟨rfl, rfl⟩))
  go_ret
  exact ⟨rfl, rfl⟩
set_option maxRecDepth 100000 in
set_option maxHeartbeats 1000000 in
theorem infixed_nil (w : World) (n : Int) : Calls Try.prog 60 #[.pointer none, .int .i64 n] w fun e w' => e = .returned (.slice none 0 0) ∧ w = w' := by
  have c1 := has_nil w n
  go_enter Try.func60, Try.ntmps60
  go_wp2_with (go_at_call 68; ((with_reducible refine c1.mono ?_); rintro e w' ⟨rfl, rfl⟩))
  go_ret
  exact ⟨rfl, rfl⟩
set_option maxRecDepth 100000 in
set_option maxHeartbeats 1000000 in
theorem inbytes_nil (w : World) (m : Int) : Calls Try.prog 59 #[.pointer none, .int .i64 m] w fun e w' => e = .returned (.slice none 0 0) ∧ w = w' := by
  have c1 := number_nil w 4 m
  have c2 := infixed_nil w 0
  go_enter Try.func59, Try.ntmps59
  go_wp2_with (first
    | (go_at_call 58; ((with_reducible refine c1.mono ?_); rintro e w' ⟨rfl, rfl⟩))
    | (go_at_call 60; ((with_reducible refine c2.mono ?_); rintro e w' ⟨rfl, rfl⟩)))
  go_ret
  exact ⟨rfl, rfl⟩
set_option maxRecDepth 100000 in
set_option maxHeartbeats 1000000 in
theorem end_nil (w : World) : Calls Try.prog 40 #[.pointer none] w fun e w' => e = .returned (.int .i64 1) ∧ w = w' := by
  go_enter Try.func40, Try.ntmps40
  go_wp2
  go_ret
  exact ⟨rfl, rfl⟩
set_option maxRecDepth 100000 in
set_option maxHeartbeats 1000000 in
theorem put_nil (w : World) (v : Value) : Calls Try.prog 65 #[.pointer none, v] w fun e w' => e = .returned (.pointer none) ∧ w = w' := by
  go_enter Try.func65, Try.ntmps65
  go_wp2
  go_ret
  exact ⟨rfl, rfl⟩
set_option maxRecDepth 100000 in
set_option maxHeartbeats 1000000 in
theorem fixed_nil (w : World) (v : Value) : Calls Try.prog 51 #[.pointer none, v] w fun e w' => e = .returned (.pointer none) ∧ w = w' := by
  have c1 := put_nil w v
  go_enter Try.func51, Try.ntmps51
  go_wp2_with (go_at_call 65; ((with_reducible refine c1.mono ?_); rintro e w' ⟨rfl, rfl⟩))
  go_ret
  exact ⟨rfl, rfl⟩
set_option maxRecDepth 100000 in
set_option maxHeartbeats 1000000 in
theorem num_nil (w : World) : Calls Try.prog 50 #[.pointer none, .int .i64 1] w fun e w' => e = .returned (.pointer none) ∧ Below w.heap.size w w' := by
  have c1 : Calls Try.prog 66 #[.int .u64 1, .int .i64 8] w fun e w' => e = .returned (.slice (some ⟨w.heap.size, 0, none⟩) 8 8) ∧ Blk8 w' w.heap.size (highB 8 1) ∧ Below w.heap.size w w' := putHigh_any 1 8 8 (by omega) (by omega) (by omega) (.inr (.inl ⟨by omega, by omega, rfl⟩)) w
  go_enter Try.func50, Try.ntmps50
  go_wp2_with (first
    | (go_at_call 66; refine c1.mono ?_; rintro e w1 ⟨rfl, hb, hB⟩; have HB := hidg_ hB; clear hb hB)
    | (go_at_call 65; have cp := put_nil w1 (.slice (some ⟨w.heap.size, 0, none⟩) 8 8); ((with_reducible refine cp.mono ?_); clear cp; rintro e w' ⟨rfl, rfl⟩)))
  go_ret
  exact ⟨rfl, HB.out⟩
set_option maxRecDepth 100000 in
set_option maxHeartbeats 1000000 in
theorem done_nil (w : World) : Calls Try.prog 53 #[.pointer none] w fun e w' => e = .returned (.tuple #[.slice none 0 0, .int .i64 1]) ∧ w = w' := by
  go_enter Try.func53, Try.ntmps53
  go_wp2
  go_ret2
  exact ⟨rfl, rfl⟩
end Go.Proofs.Ytnlipmcnpekifaa

namespace Go.Proofs.Ytnlipmcnpekifaa
set_option maxRecDepth 100000
open Go.ChangeShapes Go.WideShapes Go.ChangeAt Go.RowKit
set_option linter.unusedVariables false
set_option linter.unusedSimpArgs false

/-- A slice that reads as these ints, all of it below B. -/
def RdI (w : World) (B : Nat) (A : Option Addr) (l : List Int) : Prop :=
  0 < l.length → ∃ b off, A = some ⟨b, off, none⟩ ∧ b < B ∧ ∀ j, j < l.length → w.cell? ⟨b, off + j, none⟩ = some (.int .i64 (l.getD j 0))
theorem RdI.below {w w' : World} {B : Nat} {A : Option Addr} {l : List Int} (h : RdI w B A l) (hb : Below B w w') : RdI w' B A l := fun hn => by
  obtain ⟨b, off, e, hlt, hc⟩ := h hn
  exact ⟨b, off, e, hlt, fun j hj => (hb.cell (p := ⟨b, off + j, none⟩) hlt).trans (hc j hj)⟩
theorem open_i64s {H : Type} {enc : TypeId × Value → H} {P : Program} {t e : TypeId} {w : World} {b0 : Nat} {sp : Nat → Bool} {held : Bool} {r : Reach} {v : Value} {d : DataW H} {p : List MemPlace}
    (ht : P.underlying t = some (.slice e)) (he : P.underlying e = some (.int .i64)) (hc : P.cellsOf e = 1)
    (hv : Value.okWide P w r b0 t v) (h : DataW.Trod enc P w 0 sp held t v d p) :
    ∃ A l c, v = .slice A (l : List Int).length c ∧ RdI w w.heap.size A l ∧ l.length ≤ c ∧ c ≤ maxLen ∧ ∀ z ∈ l, -9223372036854775808 ≤ z ∧ z ≤ 9223372036854775807 := by
  obtain ⟨a0, len, cap, rfl⟩ := okWide_slice ht hv
  obtain ⟨fuel, hf⟩ := h
  rcases open_ints ht he hc hf with ⟨hcs, hx⟩ | ⟨a, len', cap', zs, hcs, _, hl, hm, hz, hx, hcell, hwz⟩
  · simp [Value.cells] at hcs
    obtain ⟨rfl, rfl, rfl⟩ := hcs
    exact ⟨none, [], 0, rfl, fun h => by simp at h, Nat.le_refl _, Nat.zero_le _, fun z hz => by simp at hz⟩
  · simp [Value.cells] at hcs
    obtain ⟨rfl, rfl, rfl⟩ := hcs
    have hzl : len ≤ zs.length := by
      rw [hz]; split <;> omega
    have hlen : (zs.take len).length = len := by rw [List.length_take]; omega
    refine ⟨some a, zs.take len, cap, by rw [hlen], fun h0 => ?_, by rw [hlen]; exact hl, hm, fun z hzm => ?_⟩
    · rw [hlen] at h0
      obtain ⟨b, off, spot⟩ := a
      have hc0 := hcell 0 (by omega)
      have hspot : spot = none := by simpa [Addr.add] using World.cell?_spot hc0
      subst hspot
      have hplain : ∀ j, (⟨b, off, none⟩ : Addr).add j = ⟨b, off + j, none⟩ := fun j => by unfold Addr.add; split <;> simp_all
      refine ⟨b, off, rfl, World.block_lt_of_cell? w _ hc0, fun j hj => ?_⟩
      rw [hlen] at hj
      rw [← hplain, hcell j (by omega)]
      simp [List.getD, hj, show j < zs.length by omega]
    · exact bounds_i64 (hwz z (List.mem_of_mem_take hzm))
/-- What an In leaves is no longer than what it had. -/
theorem numS_le (size : Nat) (most : Int) (l : List UInt8) (err : Int) : (numS size most l err).2.1.length ≤ l.length := by
  unfold numS
  split
  · exact Nat.le_refl _
  · split
    · exact Nat.le_refl _
    · split
      · exact Nat.le_refl _
      · simp
theorem fixS_le (n : Int) (l : List UInt8) (err : Int) : (fixS n l err).2.1.length ≤ l.length := by
  unfold fixS
  split
  · exact Nat.le_refl _
  · split
    · exact Nat.le_refl _
    · simp
theorem bytS_le (most : Int) (l : List UInt8) (err : Int) : (bytS most l err).2.1.length ≤ l.length := Nat.le_trans (fixS_le _ _ _) (numS_le _ _ _ _)
/-- Once there is an error, what is left says nothing any more. -/
theorem numS_same (size : Nat) (most : Int) (l l' : List UInt8) (err : Int) (h : err = 0 → l' = l) : (numS size most l' err).1 = (numS size most l err).1 ∧ (numS size most l' err).2.2 = (numS size most l err).2.2 ∧ ((numS size most l err).2.2 = 0 → (numS size most l' err).2.1 = (numS size most l err).2.1) := by
  by_cases he : err = 0
  · rw [h he]; exact ⟨rfl, rfl, fun _ => rfl⟩
  · rw [numS_off he, numS_off he]; exact ⟨rfl, rfl, fun e => absurd e he⟩
theorem fixS_same (n : Int) (l l' : List UInt8) (err : Int) (h : err = 0 → l' = l) : (fixS n l' err).1 = (fixS n l err).1 ∧ (fixS n l' err).2.2 = (fixS n l err).2.2 ∧ ((fixS n l err).2.2 = 0 → (fixS n l' err).2.1 = (fixS n l err).2.1) := by
  by_cases he : err = 0
  · rw [h he]; exact ⟨rfl, rfl, fun _ => rfl⟩
  · rw [fixS_off (.inl he), fixS_off (.inl he)]; exact ⟨rfl, rfl, fun e => absurd e he⟩
theorem bytS_same (most : Int) (l l' : List UInt8) (err : Int) (h : err = 0 → l' = l) : (bytS most l' err).1 = (bytS most l err).1 ∧ (bytS most l' err).2.2 = (bytS most l err).2.2 ∧ ((bytS most l err).2.2 = 0 → (bytS most l' err).2.1 = (bytS most l err).2.1) := by
  by_cases he : err = 0
  · rw [h he]; exact ⟨rfl, rfl, fun _ => rfl⟩
  · unfold bytS
    rw [numS_off he, numS_off he]
    exact fixS_same 0 l l' err h
theorem endS_same (l l' : List UInt8) (err : Int) (h : err = 0 → l' = l) : endS l' err = endS l err := by
  by_cases he : err = 0
  · rw [h he]
  · unfold endS
    rw [if_pos he, if_pos he]
end Go.Proofs.Ytnlipmcnpekifaa

namespace Go.Proofs.Ytnlipmcnpekifaa
set_option maxRecDepth 100000
open Go.ChangeShapes Go.WideShapes Go.ChangeAt Go.RowKit
set_option linter.unusedVariables false
set_option linter.unusedSimpArgs false

/-- A part as the walk knows it: its kind, its number, its text; where that lies, and its capacity. -/
structure PartV where
  kind : Int
  num : Int
  text : List UInt8
  at_ : Option Addr
  cap : Nat
instance : Inhabited PartV := ⟨⟨0, 0, [], none, 0⟩⟩
def PartV.agg (p : PartV) : Value := .agg #[.int .i64 p.kind, .int .i64 p.num, .slice p.at_ p.text.length p.cap]
/-- What is known of each, in a world: the text lies below B. -/
structure PartOk (w : World) (B : Nat) (p : PartV) : Prop where
  k0 : -9223372036854775808 ≤ p.kind
  k1 : p.kind ≤ 9223372036854775807
  n0 : -9223372036854775808 ≤ p.num
  n1 : p.num ≤ 9223372036854775807
  rd : Rd w B p.at_ p.text
  len : p.text.length ≤ p.cap
  cap : p.cap ≤ 9223372036854775807
theorem PartOk.below {w w' : World} {B : Nat} {p : PartV} (h : PartOk w B p) (hb : Below B w w') : PartOk w' B p := ⟨h.k0, h.k1, h.n0, h.n1, h.rd.below hb, h.len, h.cap⟩
theorem PartOk.more {w : World} {B C : Nat} {p : PartV} (h : PartOk w B p) (hB : B ≤ C) : PartOk w C p := ⟨h.k0, h.k1, h.n0, h.n1, h.rd.more hB, h.len, h.cap⟩
/-- A slice of parts, all of it below B. -/
def RdP (w : World) (B : Nat) (A : Option Addr) (l : List PartV) : Prop :=
  0 < l.length → ∃ b off, A = some ⟨b, off, none⟩ ∧ b < B ∧ ∀ j (h : j < l.length),
    w.cell? ⟨b, off + 3 * j, none⟩ = some (.int .i64 (l[j]).kind) ∧ w.cell? ⟨b, off + 3 * j + 1, none⟩ = some (.int .i64 (l[j]).num) ∧ w.cell? ⟨b, off + 3 * j + 2, none⟩ = some (.slice (l[j]).at_ (l[j]).text.length (l[j]).cap) ∧ PartOk w B l[j]
theorem RdP.below {w w' : World} {B : Nat} {A : Option Addr} {l : List PartV} (h : RdP w B A l) (hb : Below B w w') : RdP w' B A l := fun hn => by
  obtain ⟨b, off, e, hlt, hc⟩ := h hn
  refine ⟨b, off, e, hlt, fun j hj => ?_⟩
  obtain ⟨h1, h2, h3, h4⟩ := hc j hj
  exact ⟨(hb.cell (p := ⟨b, _, none⟩) hlt).trans h1, (hb.cell (p := ⟨b, _, none⟩) hlt).trans h2, (hb.cell (p := ⟨b, _, none⟩) hlt).trans h3, h4.below hb⟩
/-- The cells of a slice of bytes, within something greater. -/
theorem cells_bytes {H : Type} {enc : TypeId × Value → H} {P : Program} {t e : TypeId} {w : World} {fuel : Nat} {sp : Nat → Bool} {held : Bool} {cs : List Value} {d : DataW H × List MemPlace}
    (ht : P.underlying t = some (.slice e)) (he : P.underlying e = some (.int .u8)) (hc : P.cellsOf e = 1)
    (hf : DataW.trod enc P w 0 sp held fuel t cs = some d) :
    ∃ A l c, cs = [.slice A (l : List UInt8).length c] ∧ Rd w w.heap.size A l ∧ l.length ≤ c ∧ c ≤ maxLen := by
  rcases open_ints ht he hc hf with ⟨hcs, hx⟩ | ⟨a, len, cap, zs, hcs, _, hl, hm, hz, hx, hcell, hwz⟩
  · exact ⟨none, [], 0, hcs, Rd.nil, Nat.le_refl _, Nat.zero_le _⟩
  · have hzl : len ≤ zs.length := by
      rw [hz]; split <;> omega
    have hlen : ((zs.take len).map fun n => UInt8.ofNat n.toNat).length = len := by
      rw [List.length_map, List.length_take]; omega
    refine ⟨some a, (zs.take len).map fun n => UInt8.ofNat n.toNat, cap, by rw [hlen]; exact hcs, fun h0 => ?_, by rw [hlen]; exact hl, hm⟩
    rw [hlen] at h0
    obtain ⟨b, off, spot⟩ := a
    have hc0 := hcell 0 (by omega)
    have hspot : spot = none := by simpa [Addr.add] using World.cell?_spot hc0
    subst hspot
    have hplain : ∀ j, (⟨b, off, none⟩ : Addr).add j = ⟨b, off + j, none⟩ := fun j => by unfold Addr.add; split <;> simp_all
    refine ⟨b, off, rfl, World.block_lt_of_cell? w _ hc0, fun j hj => ?_⟩
    rw [hlen] at hj
    rw [← hplain, hcell j (by omega)]
    have hb := bounds_u8 (hwz (zs.getD j 0) (by simp [List.getD, show j < zs.length by omega]))
    have e1 : ((zs.take len).map fun n => UInt8.ofNat n.toNat).getD j 0 = UInt8.ofNat (zs.getD j 0).toNat := by
      simp [List.getD, hj, show j < zs.length by omega]
    rw [e1]
    generalize zs.getD j 0 = z at hb
    congr 2
    simp
    omega
theorem cells_int {H : Type} {enc : TypeId × Value → H} {P : Program} {t : TypeId} {w : World} {fuel : Nat} {sp : Nat → Bool} {held : Bool} {cs : List Value} {d : DataW H × List MemPlace}
    (ht : P.underlying t = some (.int .i64)) (hf : DataW.trod enc P w 0 sp held fuel t cs = some d) : ∃ z, cs = [.int .i64 z] ∧ -9223372036854775808 ≤ z ∧ z ≤ 9223372036854775807 := by
  obtain ⟨n, e, _, hw⟩ := DataW.trod_int ht hf
  exact ⟨n, e, bounds_i64 hw⟩
theorem open_pparts {H : Type} {enc : TypeId × Value → H} {P : Program} {t s ti tb e : TypeId} {f0 f1 f2 : Field} {w : World} {b0 : Nat} {sp : Nat → Bool} {held : Bool} {r : Reach} {v : Value} {d : DataW H} {p : List MemPlace}
    (ht : P.underlying t = some (.slice s)) (hs : P.underlying s = some (.struct #[f0, f1, f2])) (h0 : f0.type = ti ∧ f0.offset = 0) (h1 : f1.type = ti ∧ f1.offset = 1) (h2 : f2.type = tb ∧ f2.offset = 2)
    (hi : P.underlying ti = some (.int .i64)) (ci : P.cellsOf ti = 1) (hb : P.underlying tb = some (.slice e)) (cb : P.cellsOf tb = 1) (he : P.underlying e = some (.int .u8)) (ce : P.cellsOf e = 1) (cs3 : P.cellsOf s = 3)
    (hv : Value.okWide P w r b0 t v) (h : DataW.Trod enc P w 0 sp held t v d p) :
    ∃ A l c, v = .slice A (l : List PartV).length c ∧ RdP w w.heap.size A l ∧ l.length ≤ c ∧ c ≤ maxLen := by
  obtain ⟨a0, len, cap, rfl⟩ := okWide_slice ht hv
  obtain ⟨fuel, hf⟩ := h
  rcases Go.Deep.open_slice ht hf with ⟨hcs, hx⟩ | ⟨a, len', cap', m, n, D, Pl, hcs, _, hl, hm, hmm, hx, hel⟩
  · simp [Value.cells] at hcs
    obtain ⟨rfl, rfl, rfl⟩ := hcs
    exact ⟨none, [], 0, rfl, fun h => by simp at h, Nat.le_refl _, Nat.zero_le _⟩
  · simp [Value.cells] at hcs
    obtain ⟨rfl, rfl, rfl⟩ := hcs
    have hlm : len ≤ m := by rw [hmm]; split <;> omega
    rw [cs3] at hel
    have hone : ∀ j, j < len → ∃ q : PartV, w.cell? (a.add (j * 3)) = some (.int .i64 q.kind) ∧ w.cell? (a.add (j * 3 + 1)) = some (.int .i64 q.num) ∧ w.cell? (a.add (j * 3 + 2)) = some (.slice q.at_ q.text.length q.cap) ∧ PartOk w w.heap.size q := by
      intro j hj
      obtain ⟨cs', hc1, hc2⟩ := hel j (by omega)
      obtain ⟨_, hlen, hcell⟩ := World.cells?_some hc1
      obtain ⟨y0, y1, y2, nn, _, _, g0, g1, g2⟩ := Go.Deep.trod_struct3 hs hc2
      rw [h0.1, h0.2, ci] at g0
      rw [h1.1, h1.2, ci] at g1
      rw [h2.1, h2.2, cb] at g2
      match cs', hlen with
      | [k0, k1, k2], _ =>
        obtain ⟨z0, e0, a0, b0⟩ := cells_int hi g0
        obtain ⟨z1, e1, a1, b1⟩ := cells_int hi g1
        obtain ⟨TA, T, Tc, e2, hr, hl2, hm2⟩ := cells_bytes hb he ce g2
        simp at e0 e1 e2
        have c0 := hcell 0 (by omega)
        have c1 := hcell 1 (by omega)
        have c2 := hcell 2 (by omega)
        rw [Go.Deep.add_add] at c0 c1 c2
        refine ⟨⟨z0, z1, T, TA, Tc⟩, ?_, ?_, ?_, ⟨a0, b0, a1, b1, hr, hl2, by unfold maxLen at hm2; omega⟩⟩
        · simpa [e0] using c0
        · simpa [e1] using c1
        · simpa [e2] using c2
    obtain ⟨q, hq⟩ := Go.Deep.choose_lt hone
    refine ⟨some a, (List.range len).map q, cap, by simp, fun hn => ?_, by simpa using hl, hm⟩
    have hn' : 0 < len := by simpa using hn
    obtain ⟨b, off, spot⟩ := a
    have hc0 := (hq 0 hn').1
    have hspot : spot = none := by simpa [Addr.add] using World.cell?_spot hc0
    subst hspot
    have hplain : ∀ j, (⟨b, off, none⟩ : Addr).add j = ⟨b, off + j, none⟩ := fun j => by unfold Addr.add; split <;> simp_all
    refine ⟨b, off, rfl, World.block_lt_of_cell? w _ hc0, fun j hj => ?_⟩
    have hj' : j < len := by simpa using hj
    obtain ⟨h1, h2, h3, h4⟩ := hq j hj'
    rw [hplain] at h1 h2 h3
    have e : ((List.range len).map q)[j] = q j := by simp
    rw [e]
    refine ⟨?_, ?_, ?_, h4⟩
    · rw [Nat.mul_comm]; exact h1
    · rw [Nat.mul_comm 3 j, Nat.add_assoc]; exact h2
    · rw [Nat.mul_comm 3 j, Nat.add_assoc]; exact h3
end Go.Proofs.Ytnlipmcnpekifaa

namespace Go.Proofs.Ytnlipmcnpekifaa
set_option maxRecDepth 100000
open Go.ChangeShapes Go.WideShapes Go.ChangeAt Go.RowKit
set_option linter.unusedVariables false
set_option linter.unusedSimpArgs false

/-- The kind: one of four. -/
def PartV.k (p : PartV) : Nat := (p.kind % 4).toNat
theorem PartV.k_lt (p : PartV) : p.k < 4 := by unfold PartV.k; omega
theorem u64_some (z : Int) : ∃ x : Nat, IntKind.u64.wrap z = (x : Int) ∧ x % 4 = (z % 4).toNat ∧ x ≤ 18446744073709551615 := by
  have h : IntKind.u64.wrap z = z % 18446744073709551616 := by simp [IntKind.wrap, IntKind.signed, IntKind.bits]
  rw [h]
  exact ⟨(z % 18446744073709551616).toNat, by omega, by omega, by omega⟩
end Go.Proofs.Ytnlipmcnpekifaa

namespace Go.Proofs.Ytnlipmcnpekifaa
set_option maxRecDepth 100000
open Go.ChangeShapes Go.WideShapes Go.ChangeAt Go.RowKit
set_option linter.unusedVariables false
set_option linter.unusedSimpArgs false

set_option maxRecDepth 100000 in
set_option maxHeartbeats 1000000 in
theorem refone_any (w : World) (k : Nat) (hk : k < 256) : Calls Try.prog 54 #[.int .i64 (k : Int)] w fun e w' => e = .returned (.string (strOf [UInt8.ofNat k])) ∧ Below w.heap.size w w' := by
  have hw : IntKind.u8.wrap (k : Int) = (k : Int) := by simp [IntKind.wrap, IntKind.signed, IntKind.bits]; omega
  have hm : (k : Int) % 256 = (k : Int) := by omega
  have hcv := conv_one k w
  rw [show k % 256 = k by omega, hm] at hcv
  have HB := hidg_ ((Below.refl w.heap.size w).alloc (Nat.le_refl _) (.cells #[.int .u8 (k : Int)] 5))
  go_enter Try.func54, Try.ntmps54
  go_wp2
  go_ret
  exact ⟨rfl, HB.out⟩
/-- A number's bytes; of none: nothing. -/
def numL (z : Int) : List UInt8 := if z < 0 then [] else highB 8 z.toNat
def smallL (z : Int) : List UInt8 := if 0 ≤ z ∧ z < 256 then [UInt8.ofNat z.toNat] else []
set_option maxRecDepth 100000 in
set_option maxHeartbeats 1000000 in
theorem refNum_any (w : World) (z : Int) (w1 : z ≤ 9223372036854775807) : Calls Try.prog 28 #[.int .i64 z] w fun e w' => e = .returned (.string (strOf (numL z))) ∧ Below w.heap.size w w' := by
  by_cases hz : z < 0
  · have e : numL z = [] := if_pos hz
    rw [e]
    have hd : decide (z < 0) = true := decide_eq_true hz
    go_enter Try.func28, Try.ntmps28
    go_wp2
    go_ret
    exact ⟨rfl, Below.refl _ _⟩
  · obtain ⟨k, rfl⟩ : ∃ k : Nat, z = (k : Int) := ⟨z.toNat, by omega⟩
    have e : numL (k : Int) = putB true 8 k := if_neg hz
    rw [e]
    have c1 := refPut_any k 8 8 true (by omega) (by omega) (by omega) (.inr (.inl ⟨by omega, by omega, rfl⟩)) w
    generalize putB true 8 k = s at *
    have hd : decide ((k : Int) < 0) = false := decide_eq_false hz
    have hw : IntKind.u64.wrap (k : Int) = (k : Int) := IntWalk.u64_in _ (by omega)
    go_enter Try.func28, Try.ntmps28
    go_wp2_with (go_at_call 55; ((with_reducible refine c1.mono ?_); rintro e w' ⟨rfl, hB⟩))
    go_ret
    exact ⟨rfl, hB⟩
set_option maxRecDepth 100000 in
set_option maxHeartbeats 1000000 in
theorem refSmall_any (w : World) (z : Int) (w1 : z ≤ 9223372036854775807) : Calls Try.prog 27 #[.int .i64 z] w fun e w' => e = .returned (.string (strOf (smallL z))) ∧ Below w.heap.size w w' := by
  by_cases hz : z < 0
  · have e : smallL z = [] := if_neg (by omega)
    rw [e]
    have hd : decide (z < 0) = true := decide_eq_true hz
    go_enter Try.func27, Try.ntmps27
    go_wp2
    go_ret
    exact ⟨rfl, Below.refl _ _⟩
  · obtain ⟨k, rfl⟩ : ∃ k : Nat, z = (k : Int) := ⟨z.toNat, by omega⟩
    have hd : decide ((k : Int) < 0) = false := decide_eq_false hz
    by_cases hk : 255 < k
    · have e : smallL (k : Int) = [] := if_neg (by omega)
      rw [e]
      have hd2 : decide (255 < (k : Int)) = true := decide_eq_true (by omega)
      have hd3 : decide (255 < k) = true := decide_eq_true hk
      go_enter Try.func27, Try.ntmps27
      go_wp2
      go_ret
      exact ⟨rfl, Below.refl _ _⟩
    · have e : smallL (k : Int) = [UInt8.ofNat k] := if_pos (by omega)
      rw [e]
      have hd2 : decide (255 < (k : Int)) = false := decide_eq_false (by omega)
      have hd3 : decide (255 < k) = false := decide_eq_false hk
      have c1 := refone_any w k (by omega)
      go_enter Try.func27, Try.ntmps27
      go_wp2_with (go_at_call 54; ((with_reducible refine c1.mono ?_); rintro e w' ⟨rfl, hB⟩))
      go_ret
      exact ⟨rfl, hB⟩
set_option maxRecDepth 100000 in
set_option maxHeartbeats 1000000 in
theorem refBytes_any (w : World) (l : List UInt8) (n : Nat) (hn : l.length = n) (hm : n ≤ 140737488355328) : Calls Try.prog 56 #[.string (strOf l)] w fun e w' => e = .returned (.string (strOf (highB 4 n ++ l))) ∧ Below w.heap.size w w' := by
  have c1 := refPut_any n 4 4 true (by omega) (by omega) (by omega) (.inr (.inl ⟨by omega, by omega, rfl⟩)) w
  have hw : IntKind.u64.wrap (n : Int) = (n : Int) := IntWalk.u64_in _ (by omega)
  have hsz : (strOf l).size = n := by rw [strOf_size, hn]
  have hap := strOf_append (highB 4 n) l
  have hs1 : (strOf (highB 4 n)).size = 4 := by rw [strOf_size, highB_len]
  rw [show putB true 4 n = highB 4 n from rfl] at c1
  generalize highB 4 n = s at *
  go_enter Try.func56, Try.ntmps56
  go_wp2_with (go_at_call 55; ((with_reducible refine c1.mono ?_); rintro e w' ⟨rfl, hB⟩))
  go_ret
  exact ⟨rfl, hB⟩
end Go.Proofs.Ytnlipmcnpekifaa
