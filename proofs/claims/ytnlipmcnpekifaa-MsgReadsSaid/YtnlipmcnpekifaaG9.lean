/-
  casketref08.In: the document's.
-/
import Derived.Test.YtnlipmcnpekifaaG8
namespace Go.Proofs.Ytnlipmcnpekifaa
set_option maxRecDepth 100000
open Go.RowKit
set_option linter.unusedVariables false
set_option linter.unusedSimpArgs false

/-- What lies behind the document's In's pointer. -/
def RiF (w : World) (g : Nat) (l : List UInt8) (err : Int) : Prop := Bk w g 90 #[.string (strOf l), .int .i64 err]
theorem RiF.fail {w : World} {g : Nat} {l : List UInt8} {err : Int} (h : RiF w g l err) (e : Int) : RiF (w.setCell ⟨g, 1, none⟩ (.int .i64 e)) g l e ∧ Untouched [g] w (w.setCell ⟨g, 1, none⟩ (.int .i64 e)) :=
  ⟨h.set_ 1 _, Untouched.set g 1 (by simp) _⟩
theorem RiF.less {w : World} {g : Nat} {l : List UInt8} {err : Int} (h : RiF w g l err) (m : List UInt8) : RiF (w.setCell ⟨g, 0, none⟩ (.string (strOf m))) g m err ∧ Untouched [g] w (w.setCell ⟨g, 0, none⟩ (.string (strOf m))) :=
  ⟨h.set_ 0 _, Untouched.set g 0 (by simp) _⟩
theorem str_from (l : List UInt8) (n k : Nat) (hl : l.length = n) (hk : k ≤ n) (W : World) :
    (Instr.slice 9 (.string (strOf l)) (some (.int .i64 (k : Int))) none none).run Try.prog W = .ok (.string (strOf (l.drop k))) W := by
  have hs : (strOf l).size = n := by rw [strOf_size, hl]
  rw [run_slice_string_l W 9 (strOf l) Try.underlying9 .i64 (k : Int) (by omega) (by rw [hs]; omega), Int.toNat_natCast, hs, strOf_mid]
  congr 3
  exact List.take_of_length_le (by rw [List.length_drop]; omega)
theorem str_to (l : List UInt8) (n k : Nat) (hl : l.length = n) (hk : k ≤ n) (W : World) :
    (Instr.slice 9 (.string (strOf l)) none (some (.int .i64 (k : Int))) none).run Try.prog W = .ok (.string (strOf (l.take k))) W := by
  have hs : (strOf l).size = n := by rw [strOf_size, hl]
  rw [run_slice_string_h W 9 (strOf l) Try.underlying9 .i64 (k : Int) (by omega) (by rw [hs]; omega), Int.toNat_natCast, strOf_mid]
  rfl
theorem str_mid (l : List UInt8) (n a b : Nat) (hl : l.length = n) (hab : a ≤ b) (hb : b ≤ n) (W : World) :
    (Instr.slice 9 (.string (strOf l)) (some (.int .i64 (a : Int))) (some (.int .i64 (b : Int))) none).run Try.prog W = .ok (.string (strOf ((l.drop a).take (b - a)))) W := by
  have hs : (strOf l).size = n := by rw [strOf_size, hl]
  rw [run_slice_string_if W 9 (strOf l) .i64 .i64 _ _ Try.underlying9, if_pos (by rw [hs]; omega), if_pos (by omega), Int.toNat_natCast, Int.toNat_natCast, strOf_mid]

/-- The number ahead, that stays. -/
def RnP (w : World) (g size : Nat) (most : Int) (l : List UInt8) (e : Ending) (w' : World) : Prop :=
  e = .returned (.int .i64 (numS size most l 0).1) ∧ RiF w' g l (numS size most l 0).2.2 ∧ Untouched [g] w w'
set_option maxRecDepth 100000 in
set_option maxHeartbeats 2000000 in
theorem refnumber_any (w : World) (g size : Nat) (most : Int) (l : List UInt8) (h : RiF w g l 0) (hs8 : size ≤ 8) (w0 : -9223372036854775808 ≤ most) (w1 : most ≤ 9223372036854775807) :
    Calls Try.prog 72 #[.pointer (some ⟨g, 0, none⟩), .int .i64 (size : Int), .int .i64 most] w (RnP w g size most l) := by
  obtain ⟨n, hn⟩ : ∃ n, l.length = n := ⟨_, rfl⟩
  have hsz : (strOf l).size = n := by rw [strOf_size, hn]
  have hc0 := Bk.cell h 0
  have hc1 := Bk.cell h 1
  have hf1 := Bk.frozen h 1
  simp only [List.getElem?_toArray, List.getElem?_cons_zero, List.getElem?_cons_succ] at hc0 hc1
  have H := hidg_ h
  by_cases hl : n < size
  · have hd : decide ((n : Int) < (size : Int)) = true := decide_eq_true (by omega)
    have hd' : decide (n < size) = true := decide_eq_true hl
    have HF := hidg_ (h.fail 3)
    have HQ : Hid (numS size most l 0 = (0, l, 3)) := hidg_ (numS_short (by omega))
    clear h
    go_enter Try.func72, Try.ntmps72
    go_wp2
    go_ret
    refine ⟨?_, ?_, HF.out.2⟩ <;> rw [HQ.out]
    · rfl
    · exact HF.out.1
  · have hd : decide ((n : Int) < (size : Int)) = false := decide_eq_false (by omega)
    have hd' : decide (n < size) = false := decide_eq_false hl
    have s1 := fun W => str_to l n size hn (by omega) W
    obtain ⟨m, hm⟩ : ∃ m, Hid (l.take size = m) := ⟨_, hidg_ rfl⟩
    have hml : m.length = size := by rw [← hm.out, List.length_take]; omega
    rw [hm.out] at s1
    have c1 := fun W => refWord_high m size hml hs8 W
    have hlt := beN_lt m
    rw [hml] at hlt
    have hpow : (256 : Nat) ^ size ≤ 256 ^ 8 := Nat.pow_le_pow_right (by decide) hs8
    have h64 : (256 : Nat) ^ 8 = 18446744073709551616 := by decide
    obtain ⟨x, hx⟩ : ∃ x, Hid (beN m = x) := ⟨_, hidg_ rfl⟩
    have hx64 : x ≤ 18446744073709551615 := by rw [← hx.out]; omega
    rw [hx.out] at c1
    have HXM : Hid (beN (l.take size) = x) := hidg_ (by rw [hm.out, hx.out])
    clear hlt hpow h64
    by_cases hneg : most < 0
    · have hd2 : decide (most < 0) = true := decide_eq_true hneg
      have HF := hidg_ (h.fail 5)
      have HQ : Hid (numS size most l 0 = (0, l, 5)) := hidg_ (numS_big (by omega) (by omega))
      clear h hn
      go_enter Try.func72, Try.ntmps72
      go_wp2_with (go_at_call 76; ((with_reducible refine (c1 _).mono ?_); rintro e w' ⟨rfl, rfl⟩))
      go_ret
      refine ⟨?_, ?_, HF.out.2⟩ <;> rw [HQ.out]
      · rfl
      · exact HF.out.1
    · obtain ⟨p, rfl⟩ : ∃ p : Nat, most = (p : Int) := ⟨most.toNat, by omega⟩
      have hd2 : decide ((p : Int) < 0) = false := decide_eq_false hneg
      have hwp : IntKind.u64.wrap (p : Int) = (p : Int) := IntWalk.u64_in _ (by omega)
      by_cases hbig : p < x
      · have hd3 : decide ((p : Int) < (x : Int)) = true := decide_eq_true (by omega)
        have hd4 : decide (p < x) = true := decide_eq_true hbig
        have HF := hidg_ (h.fail 5)
        have HQ : Hid (numS size (p : Int) l 0 = (0, l, 5)) := hidg_ (numS_big (by omega) (by rw [HXM.out]; omega))
        clear h hn
        go_enter Try.func72, Try.ntmps72
        go_wp2_with (go_at_call 76; ((with_reducible refine (c1 _).mono ?_); rintro e w' ⟨rfl, rfl⟩))
        go_ret
        refine ⟨?_, ?_, HF.out.2⟩ <;> rw [HQ.out]
        · rfl
        · exact HF.out.1
      · have hd3 : decide ((p : Int) < (x : Int)) = false := decide_eq_false (by omega)
        have hd4 : decide (p < x) = false := decide_eq_false hbig
        have hwx : IntKind.i64.wrap (x : Int) = (x : Int) := IntWalk.i64_in _ (by omega)
        have HQ : Hid (numS size (p : Int) l 0 = ((x : Int), l.drop size, 0)) := hidg_ (by rw [numS_yes (by omega) (by rw [HXM.out]; omega), HXM.out])
        clear h hn
        go_enter Try.func72, Try.ntmps72
        go_wp2_with (go_at_call 76; ((with_reducible refine (c1 _).mono ?_); rintro e w' ⟨rfl, rfl⟩))
        go_ret
        refine ⟨?_, ?_, Untouched.refl _ _⟩ <;> rw [HQ.out]
        · rfl
        · exact H.out
/-- A number taken. -/
def RtP (w : World) (g size : Nat) (most : Int) (l : List UInt8) (err : Int) (e : Ending) (w' : World) : Prop :=
  e = .returned (.int .i64 (numS size most l err).1) ∧ RiF w' g (numS size most l err).2.1 (numS size most l err).2.2 ∧ Untouched [g] w w'
theorem numS_err (size : Nat) (most : Int) (l : List UInt8) : (numS size most l 0).2.2 ≠ 0 ∧ (numS size most l 0).2.1 = l ∨ (numS size most l 0).2.2 = 0 ∧ (numS size most l 0).2.1 = l.drop size ∧ size ≤ l.length := by
  unfold numS
  rw [if_neg (by decide)]
  split
  · exact .inl ⟨by show (3 : Int) ≠ 0; decide, rfl⟩
  · split
    · exact .inl ⟨by show (5 : Int) ≠ 0; decide, rfl⟩
    · exact .inr ⟨rfl, rfl, by omega⟩
set_option maxRecDepth 100000 in
set_option maxHeartbeats 2000000 in
theorem reftake_any (w : World) (g size : Nat) (most : Int) (l : List UInt8) (err : Int) (h : RiF w g l err) (hs8 : size ≤ 8) (w0 : -9223372036854775808 ≤ most) (w1 : most ≤ 9223372036854775807) :
    Calls Try.prog 61 #[.pointer (some ⟨g, 0, none⟩), .int .i64 (size : Int), .int .i64 most] w (RtP w g size most l err) := by
  have hc1 := Bk.cell h 1
  simp only [List.getElem?_toArray, List.getElem?_cons_zero, List.getElem?_cons_succ] at hc1
  by_cases he : err = 0
  case neg =>
    have hd : (err != 0) = true := by simpa using he
    have H := hidg_ h
    have HE := hidg_ he
    clear he h
    go_enter Try.func61, Try.ntmps61
    go_wp2
    go_ret
    refine ⟨?_, ?_, Untouched.refl _ _⟩ <;> rw [numS_off HE.out]
    · rfl
    · exact H.out
  subst he
  have c1 := refnumber_any w g size most l h hs8 w0 w1
  have hcase := numS_err size most l
  unfold RnP at c1
  have HQ : Hid (numS size most l 0 = numS size most l 0) := hidg_ rfl
  unfold RtP
  generalize numS size most l 0 = S at *
  obtain ⟨x, l2, e2⟩ := S
  simp only at c1 hcase ⊢
  rcases hcase with ⟨hne, rfl⟩ | ⟨rfl, rfl, hle⟩
  · have hd : (e2 == 0) = false := by simpa using hne
    clear hne h
    go_enter Try.func61, Try.ntmps61
    go_wp2_with (go_at_call 72; ((with_reducible refine c1.mono ?_); rintro e w' ⟨rfl, hR, hU⟩; have hcc := Bk.cell hR 1; simp only [List.getElem?_toArray, List.getElem?_cons_zero, List.getElem?_cons_succ] at hcc; have HR := hidg_ hR; have HU := hidg_ hU; clear hR hU))
    go_ret
    exact ⟨rfl, HR.out, HU.out⟩
  · have s1 := fun W => str_from l l.length size rfl hle W
    clear h hle
    go_enter Try.func61, Try.ntmps61
    go_wp2_with (go_at_call 72; ((with_reducible refine c1.mono ?_); rintro e w' ⟨rfl, hR, hU⟩; have hcc := Bk.cell hR 1; have hc0 := Bk.cell hR 0; have hf0 := Bk.frozen hR 0; simp only [List.getElem?_toArray, List.getElem?_cons_zero, List.getElem?_cons_succ] at hcc hc0; have HR := hidg_ (hR.less (l.drop size)); have HU := hidg_ hU; clear hR hU))
    go_ret
    exact ⟨rfl, HR.out.1, HU.out.trans (Grew.refl _ _) HR.out.2⟩
set_option maxRecDepth 100000 in
set_option maxHeartbeats 1000000 in
theorem refnum_any (w : World) (g : Nat) (most : Int) (l : List UInt8) (err : Int) (h : RiF w g l err) (w0 : -9223372036854775808 ≤ most) (w1 : most ≤ 9223372036854775807) :
    Calls Try.prog 42 #[.pointer (some ⟨g, 0, none⟩), .int .i64 most] w (RtP w g 8 most l err) := by
  have c1 : Calls Try.prog 61 #[.pointer (some ⟨g, 0, none⟩), .int .i64 8, .int .i64 most] w (RtP w g 8 most l err) := reftake_any w g 8 most l err h (by omega) w0 w1
  go_enter Try.func42, Try.ntmps42
  go_wp2_with (go_at_call 61; ((with_reducible refine c1.mono ?_); rintro e w4 ⟨rfl, hI4, hU4⟩))
  go_ret
  exact ⟨rfl, hI4, hU4⟩
set_option maxRecDepth 100000 in
set_option maxHeartbeats 1000000 in
theorem refsmall_any (w : World) (g : Nat) (most : Int) (l : List UInt8) (err : Int) (h : RiF w g l err) (w0 : -9223372036854775808 ≤ most) (w1 : most ≤ 9223372036854775807) :
    Calls Try.prog 41 #[.pointer (some ⟨g, 0, none⟩), .int .i64 most] w (RtP w g 1 most l err) := by
  have c1 : Calls Try.prog 61 #[.pointer (some ⟨g, 0, none⟩), .int .i64 1, .int .i64 most] w (RtP w g 1 most l err) := reftake_any w g 1 most l err h (by omega) w0 w1
  go_enter Try.func41, Try.ntmps41
  go_wp2_with (go_at_call 61; ((with_reducible refine c1.mono ?_); rintro e w4 ⟨rfl, hI4, hU4⟩))
  go_ret
  exact ⟨rfl, hI4, hU4⟩
/-- Bytes taken. -/
def RfP (w : World) (g : Nat) (n : Int) (l : List UInt8) (err : Int) (e : Ending) (w' : World) : Prop :=
  e = .returned (.string (strOf (fixS n l err).1)) ∧ RiF w' g (fixS n l err).2.1 (fixS n l err).2.2 ∧ Untouched [g] w w'
set_option maxRecDepth 100000 in
set_option maxHeartbeats 2000000 in
theorem reffixed_any (w : World) (g : Nat) (n : Int) (l : List UInt8) (err : Int) (h : RiF w g l err) (w0 : -9223372036854775808 ≤ n) (w1 : n ≤ 9223372036854775807) :
    Calls Try.prog 44 #[.pointer (some ⟨g, 0, none⟩), .int .i64 n] w (RfP w g n l err) := by
  obtain ⟨z, hz⟩ : ∃ z, l.length = z := ⟨_, rfl⟩
  have hsz : (strOf l).size = z := by rw [strOf_size, hz]
  have hc0 := Bk.cell h 0
  have hc1 := Bk.cell h 1
  have hf1 := Bk.frozen h 1
  have hf0 := Bk.frozen h 0
  simp only [List.getElem?_toArray, List.getElem?_cons_zero, List.getElem?_cons_succ] at hc0 hc1
  have H := hidg_ h
  have hemp : Hid (strOf [] = { data := #[] }) := hidg_ rfl
  by_cases he : err = 0
  case neg =>
    have hd : (err != 0) = true := by simpa using he
    have HQ : Hid (fixS n l err = ([], l, err)) := hidg_ (fixS_off (.inl he))
    clear he h
    go_enter Try.func44, Try.ntmps44
    go_wp2
    go_ret
    refine ⟨?_, ?_, Untouched.refl _ _⟩ <;> rw [HQ.out]
    · rfl
    · exact H.out
  subst he
  by_cases hneg : n < 0
  · have hd2 : decide (n < 0) = true := decide_eq_true hneg
    have HQ : Hid (fixS n l 0 = ([], l, 0)) := hidg_ (fixS_off (.inr (by omega)))
    clear h hneg
    go_enter Try.func44, Try.ntmps44
    go_wp2
    go_ret
    refine ⟨?_, ?_, Untouched.refl _ _⟩ <;> rw [HQ.out]
    · rfl
    · exact H.out
  obtain ⟨k, rfl⟩ : ∃ k : Nat, n = (k : Int) := ⟨n.toNat, by omega⟩
  have hd2 : decide ((k : Int) < 0) = false := decide_eq_false hneg
  by_cases hl : z < k
  · have hd3 : decide ((z : Int) < (k : Int)) = true := decide_eq_true (by omega)
    have hd4 : decide (z < k) = true := decide_eq_true hl
    have HF := hidg_ (h.fail 3)
    have HQ : Hid (fixS (k : Int) l 0 = ([], l, 3)) := hidg_ (fixS_short (by omega) (by omega))
    clear h hz
    go_enter Try.func44, Try.ntmps44
    go_wp2
    go_ret
    refine ⟨?_, ?_, HF.out.2⟩ <;> rw [HQ.out]
    · rfl
    · exact HF.out.1
  · have hd3 : decide ((z : Int) < (k : Int)) = false := decide_eq_false (by omega)
    have hd4 : decide (z < k) = false := decide_eq_false hl
    have s1 := fun W => str_to l z k hz (by omega) W
    have s2 := fun W => str_from l z k hz (by omega) W
    have HF := hidg_ (h.less (l.drop k))
    have HQ : Hid (fixS (k : Int) l 0 = (l.take k, l.drop k, 0)) := hidg_ (by
      by_cases hk : k = 0
      · subst hk
        rw [fixS_off (.inr (by omega))]
        rfl
      · exact fixS_yes (by omega) (by omega))
    clear h hz
    go_enter Try.func44, Try.ntmps44
    go_wp2
    go_ret
    refine ⟨?_, ?_, HF.out.2⟩ <;> rw [HQ.out]
    · rfl
    · exact HF.out.1
/-- Bytes with their count ahead: the answer and the error as the code's; what is left as the code's if there is no error. -/
def RbP (w : World) (g : Nat) (s : List UInt8) (l : List UInt8) (err : Int) (e : Ending) (w' : World) : Prop :=
  e = .returned (.string (strOf s)) ∧ (∃ l', RiF w' g l' err ∧ (err = 0 → l' = l)) ∧ Untouched [g] w w'
def bytS (most : Int) (l : List UInt8) (err : Int) : List UInt8 × List UInt8 × Int := fixS (numS 4 most l err).1 (numS 4 most l err).2.1 (numS 4 most l err).2.2
set_option maxRecDepth 100000 in
set_option maxHeartbeats 2000000 in
theorem refend_any (w : World) (g : Nat) (l : List UInt8) (err : Int) (h : RiF w g l err) :
    Calls Try.prog 46 #[.pointer (some ⟨g, 0, none⟩)] w fun e w' => e = .returned (.int .i64 (endS l err)) ∧ w = w' := by
  have hc0 := Bk.cell h 0
  have hc1 := Bk.cell h 1
  simp only [List.getElem?_toArray, List.getElem?_cons_zero, List.getElem?_cons_succ] at hc0 hc1
  clear h
  have hemp : strOf [] = { data := #[] } := rfl
  by_cases he : err = 0
  · subst he
    by_cases hl : l = []
    · have hst : (strOf l).toList.isEmpty = true := by rw [strOf_toList, hl]; rfl
      have hE : Hid (endS l 0 = 0) := hidg_ (by rw [hl]; rfl)
      clear hemp hl
      go_enter Try.func46, Try.ntmps46
      go_wp2
      go_ret
      exact ⟨by rw [hE.out]; rfl, rfl⟩
    · have hst : (strOf l).toList.isEmpty = false := by rw [strOf_toList]; simpa using hl
      have hE : Hid (endS l 0 = 4) := hidg_ (by
        have : 0 < l.length := Nat.pos_of_ne_zero fun e => hl (List.eq_nil_of_length_eq_zero e)
        simp [endS, this])
      clear hemp hl
      go_enter Try.func46, Try.ntmps46
      go_wp2
      go_ret
      exact ⟨by rw [hE.out]; rfl, rfl⟩
  · have hd : (err == 0) = false := by simpa using he
    have hE : Hid (endS l err = err) := hidg_ (if_pos he)
    clear he hemp
    go_enter Try.func46, Try.ntmps46
    go_wp2
    go_ret
    exact ⟨by rw [hE.out]; rfl, rfl⟩
theorem numS_big32 (most : Int) (l : List UInt8) (h : (numS 4 most l 0).2.2 = 0) : ∃ k : Nat, (numS 4 most l 0).1 = (k : Int) ∧ k ≤ 4294967295 := by
  unfold numS at h ⊢
  rw [if_neg (by decide)] at h ⊢
  split at h
  · cases h
  · rename_i h1
    rw [if_neg h1]
    split at h
    · cases h
    · rename_i h2
      rw [if_neg h2]
      refine ⟨_, rfl, ?_⟩
      have h3 := beN_lt (l.take 4)
      have h4 : (l.take 4).length = 4 := by rw [List.length_take]; omega
      rw [h4] at h3
      have : (256 : Nat) ^ 4 = 4294967296 := by decide
      omega
set_option maxRecDepth 100000 in
set_option maxHeartbeats 2000000 in
theorem refbytes_any (w : World) (g : Nat) (most : Int) (l : List UInt8) (err : Int) (h : RiF w g l err) (hm : err = 0 → l.length ≤ 140737488355328) (w0 : -9223372036854775808 ≤ most) (w1 : most ≤ 9223372036854775807) :
    Calls Try.prog 62 #[.pointer (some ⟨g, 0, none⟩), .int .i64 most] w (RbP w g (bytS most l err).1 (bytS most l err).2.1 (bytS most l err).2.2) := by
  have hc1 := Bk.cell h 1
  simp only [List.getElem?_toArray, List.getElem?_cons_zero, List.getElem?_cons_succ] at hc1
  by_cases he : err = 0
  case neg =>
    have hd : (err != 0) = true := by simpa using he
    have H := hidg_ h
    have HQ : Hid (bytS most l err = ([], l, err)) := hidg_ (by unfold bytS; rw [numS_off he]; exact fixS_off (.inl he))
    clear he h
    go_enter Try.func62, Try.ntmps62
    go_wp2
    go_ret
    rw [HQ.out]
    exact ⟨rfl, ⟨l, H.out, fun _ => rfl⟩, Untouched.refl _ _⟩
  subst he
  have hm := hm rfl
  have c1 : Calls Try.prog 72 #[.pointer (some ⟨g, 0, none⟩), .int .i64 4, .int .i64 most] w (RnP w g 4 most l) := refnumber_any w g 4 most l h (by omega) w0 w1
  have hcase := numS_err 4 most l
  have h32 := numS_big32 most l
  unfold RnP at c1
  unfold bytS
  generalize numS 4 most l 0 = S at *
  obtain ⟨x, l2, e2⟩ := S
  simp only at c1 hcase h32 ⊢
  rcases hcase with ⟨hne, rfl⟩ | ⟨rfl, rfl, hle⟩
  · have hd : (e2 != 0) = true := by simpa using hne
    have HQ : Hid (fixS x l2 e2 = ([], l2, e2)) := hidg_ (fixS_off (.inl hne))
    clear hne h h32
    go_enter Try.func62, Try.ntmps62
    go_wp2_with (go_at_call 72; ((with_reducible refine c1.mono ?_); rintro e w' ⟨rfl, hR, hU⟩; have hcc := Bk.cell hR 1; simp only [List.getElem?_toArray, List.getElem?_cons_zero, List.getElem?_cons_succ] at hcc; have HR := hidg_ hR; have HU := hidg_ hU; clear hR hU))
    go_ret
    rw [HQ.out]
    exact ⟨rfl, ⟨l2, HR.out, fun _ => rfl⟩, HU.out⟩
  · obtain ⟨k, rfl, hk⟩ := h32 rfl
    clear h32
    obtain ⟨z, hz⟩ : ∃ z, l.length = z := ⟨_, rfl⟩
    have hsz : (strOf l).size = z := by rw [strOf_size, hz]
    have hz4 : 4 ≤ z := by omega
    rw [hz] at hm
    obtain ⟨y, hy⟩ : ∃ y, y + 4 = z := ⟨z - 4, by omega⟩
    have hwy : IntKind.i64.wrap ((z : Int) - 4) = (y : Int) := by rw [IntWalk.i64_in _ (by omega)]; omega
    have hdl : (l.drop 4).length = y := by rw [List.length_drop, hz]; omega
    by_cases hl : y < k
    · have hd3 : decide ((y : Int) < (k : Int)) = true := decide_eq_true (by omega)
      have hd4 : decide (y < k) = true := decide_eq_true hl
      have HQ : Hid (fixS (k : Int) (l.drop 4) 0 = ([], l.drop 4, 3)) := hidg_ (fixS_short (by omega) (by omega))
      clear h hz hle hy hdl
      go_enter Try.func62, Try.ntmps62
      go_wp2_with (go_at_call 72; ((with_reducible refine c1.mono ?_); rintro e w' ⟨rfl, hR, hU⟩; have hcc := Bk.cell hR 1; have hc0 := Bk.cell hR 0; have hf1 := Bk.frozen hR 1; simp only [List.getElem?_toArray, List.getElem?_cons_zero, List.getElem?_cons_succ] at hcc hc0; have HR := hidg_ (hR.fail 3); have HU := hidg_ hU; clear hR hU))
      go_ret
      rw [HQ.out]
      exact ⟨rfl, ⟨l, HR.out.1, fun e => by cases e⟩, HU.out.trans (Grew.refl _ _) HR.out.2⟩
    · have hd3 : decide ((y : Int) < (k : Int)) = false := decide_eq_false (by omega)
      have hd4 : decide (y < k) = false := decide_eq_false hl
      obtain ⟨q, hq⟩ : ∃ q, 4 + k = q := ⟨_, rfl⟩
      have hwq : IntKind.i64.wrap (4 + (k : Int)) = (q : Int) := by rw [IntWalk.i64_in _ (by omega)]; omega
      have s1 : ∀ W : World, (Instr.slice 9 (.string (strOf l)) (some (.int .i64 4)) (some (.int .i64 (q : Int))) none).run Try.prog W = .ok (.string (strOf ((l.drop 4).take k))) W := fun W => by
        have h1 := str_mid l z 4 q hz (by omega) (by omega) W
        rw [show q - 4 = k by omega] at h1
        exact h1
      have s2 : ∀ W : World, (Instr.slice 9 (.string (strOf l)) (some (.int .i64 (q : Int))) none none).run Try.prog W = .ok (.string (strOf ((l.drop 4).drop k))) W := fun W => by
        have h1 := str_from l z q hz (by omega) W
        rw [List.drop_drop, hq]
        exact h1
      have HQ : Hid (fixS (k : Int) (l.drop 4) 0 = ((l.drop 4).take k, (l.drop 4).drop k, 0)) := hidg_ (by
        by_cases hk : k = 0
        · subst hk
          rw [fixS_off (.inr (by omega))]
          rfl
        · exact fixS_yes (by omega) (by omega))
      generalize (l.drop 4).take k = Y1 at *
      generalize (l.drop 4).drop k = Y2 at *
      clear h hz hle hy hdl hq
      go_enter Try.func62, Try.ntmps62
      go_wp2_with (go_at_call 72; ((with_reducible refine c1.mono ?_); rintro e w' ⟨rfl, hR, hU⟩; have hcc := Bk.cell hR 1; have hc0 := Bk.cell hR 0; have hf0 := Bk.frozen hR 0; simp only [List.getElem?_toArray, List.getElem?_cons_zero, List.getElem?_cons_succ] at hcc hc0; have HR := hidg_ (hR.less Y2); have HU := hidg_ hU; clear hR hU))
      go_ret
      rw [HQ.out]
      exact ⟨rfl, ⟨Y2, HR.out.1, fun _ => rfl⟩, HU.out.trans (Grew.refl _ _) HR.out.2⟩
end Go.Proofs.Ytnlipmcnpekifaa
