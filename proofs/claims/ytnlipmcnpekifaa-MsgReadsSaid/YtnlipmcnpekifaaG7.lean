/-
  codec.In: number.
-/
import Derived.Test.YtnlipmcnpekifaaG6
namespace Go.Proofs.Ytnlipmcnpekifaa
set_option maxRecDepth 100000
open Go.RowKit
set_option linter.unusedVariables false
set_option linter.unusedSimpArgs false

/-- A number out of what is left; what is left then, and the error. -/
def numS (size : Nat) (most : Int) (l : List UInt8) (err : Int) : Int × List UInt8 × Int :=
  if err ≠ 0 then (0, l, err) else if l.length < size then (0, l, 3) else if most < (beN (l.take size) : Int) then (0, l, 5) else ((beN (l.take size) : Int), l.drop size, 0)
theorem numS_off {size : Nat} {most : Int} {l : List UInt8} {err : Int} (h : err ≠ 0) : numS size most l err = (0, l, err) := if_pos h
theorem numS_short {size : Nat} {most : Int} {l : List UInt8} (h : l.length < size) : numS size most l 0 = (0, l, 3) := by simp [numS, h]
theorem numS_big {size : Nat} {most : Int} {l : List UInt8} (h : ¬ l.length < size) (h2 : most < (beN (l.take size) : Int)) : numS size most l 0 = (0, l, 5) := by simp [numS, h, h2]
theorem numS_yes {size : Nat} {most : Int} {l : List UInt8} (h : ¬ l.length < size) (h2 : ¬ most < (beN (l.take size) : Int)) : numS size most l 0 = ((beN (l.take size) : Int), l.drop size, 0) := by simp [numS, h, h2]
def NumP (w : World) (g size : Nat) (most : Int) (l : List UInt8) (err : Int) (F : List Nat) (e : Ending) (w' : World) : Prop :=
  e = .returned (.int .i64 (numS size most l err).1) ∧ InF w' g (numS size most l err).2.1 (numS size most l err).2.2 F ∧ Untouched [g] w w'
theorem beN_zeros (k : Nat) (m : List UInt8) : beN (zbytes k ++ m) = beN m := by
  rw [beN_append]
  have : beN (zbytes k) = 0 := by
    induction k with
    | zero => rfl
    | succ k ih =>
      have e : zbytes (k + 1) = zbytes k ++ [0] := by simp [zbytes, List.replicate_succ']
      rw [e, beN_snoc, ih]
      rfl
  rw [this]
  omega
theorem size8_ (W : World) : (sizeOf (Try.prog.elem 109)).run Try.prog W = .ok 1 W := by
  have he : Try.prog.elem 109 = 5 := by kernel_rfl
  rw [he]
  obtain ⟨i, hi, hz, hsize, hby⟩ := info_parts info8
  simp [sizeOf, typeInfo, hi, hsize]
set_option maxRecDepth 100000 in
theorem slice_from8 (g k : Nat) (hk : k < 8) (W : World) :
    (Instr.sliceAt 109 (.pointer (some ⟨g, 0, none⟩)) (some (.int .i64 (k : Int))) none none).run Try.prog W = .ok (.slice (some ⟨g, k, none⟩) (8 - k) (8 - k)) W := by
  have he : Try.prog.elem 109 = 5 := by kernel_rfl
  have hn : Try.prog.arrayLen 109 = 8 := by kernel_rfl
  have ht : Try.prog.underlying 109 = some (.array (Try.prog.arrayLen 109) (Try.prog.elem 109)) := by rw [he, hn]; exact Try.underlying109
  rw [run_sliceAt_array_l W 109 ⟨g, 0, none⟩ ht .i64 k (by omega) (by rw [hn]; omega), size8_, hn]
  simp only [Result.andThen, slicedAt, Int.toNat_natCast, Nat.mul_one]
  rw [if_neg (by omega)]
  congr 3
  unfold Addr.add
  split
  · congr 1; omega
  · simp
set_option maxRecDepth 100000 in
theorem slice_all8 (g : Nat) (W : World) :
    (Instr.sliceAt 109 (.pointer (some ⟨g, 0, none⟩)) none none none).run Try.prog W = .ok (.slice (some ⟨g, 0, none⟩) 8 8) W := by
  have he : Try.prog.elem 109 = 5 := by kernel_rfl
  have hn : Try.prog.arrayLen 109 = 8 := by kernel_rfl
  have ht : Try.prog.underlying 109 = some (.array (Try.prog.arrayLen 109) (Try.prog.elem 109)) := by rw [he, hn]; exact Try.underlying109
  rw [run_sliceAt_array_all W 109 ⟨g, 0, none⟩ ht, size8_, hn]
  simp only [Result.andThen, slicedAt, Nat.mul_one]
  rw [if_neg (by omega)]
  congr 3

theorem z8_ (W : World) : (zeroValue 109).run Try.prog W = .ok (.agg (rowOf (zbytes 8))) W := by kernel_rfl
set_option maxRecDepth 100000 in
set_option maxHeartbeats 2000000 in
theorem number_any (w : World) (g size : Nat) (most : Int) (l : List UInt8) (err : Int) (F : List Nat) (h : InF w g l err F) (hs0 : 0 < size) (hs8 : size ≤ 8) (w0 : -9223372036854775808 ≤ most) (w1 : most ≤ 9223372036854775807) :
    Calls Try.prog 58 #[.pointer (some ⟨g, 0, none⟩), .int .i64 (size : Int), .int .i64 most] w (NumP w g size most l err F) := by
  by_cases he : err = 0
  case neg =>
    have c1 := has_off w g l err F (size : Int) h (.inl he)
    go_enter Try.func58, Try.ntmps58
    go_wp2_with (go_at_call 68; ((with_reducible refine c1.mono ?_); rintro e w' ⟨rfl, rfl⟩))
    go_ret
    refine ⟨?_, ?_, Untouched.refl _ _⟩ <;> rw [numS_off he]
    · rfl
    · exact h
  subst he
  by_cases hl : l.length < size
  · have c1 := has_short w g l F size h hs0 hl
    go_enter Try.func58, Try.ntmps58
    go_wp2_with (go_at_call 68; ((with_reducible refine c1.mono ?_); rintro e w' ⟨rfl, hI, hU⟩))
    go_ret
    refine ⟨?_, ?_, hU⟩ <;> rw [numS_short hl]
    · rfl
    · exact hI
  · have c1 := has_yes w g l F size h hs0 (by omega)
    obtain ⟨A, n, c, hI⟩ := h.out
    have hln : size ≤ n := by have := hI.len; omega
    have hc0 := hI.head.cell 0
    simp only [List.getElem?_toArray, List.getElem?_cons_zero, List.getElem?_cons_succ] at hc0
    have hw8 : IntKind.i64.wrap ((8 : Int) - (size : Int)) = ((8 - size : Nat) : Int) := by rw [IntWalk.i64_in _ (by omega)]; omega
    go_enter Try.func58, Try.ntmps58
    have hz8 := z8_
    have hsl := fun W => slice_from8 w.heap.size (8 - size) (by omega) W
    have hsz : 8 - (8 - size) = size := by omega
    rw [hsz] at hsl
    have hsa := fun W => slice_all8 w.heap.size W
    have hI1 := hidg_ (hI.apart (G := []) (Untouched.alloc (.cells (rowOf (zbytes 8)) 109)) fun _ _ => by simp)
    have hc1 := hI1.out.head.cell 0
    simp only [List.getElem?_toArray, List.getElem?_cons_zero, List.getElem?_cons_succ] at hc1
    have B1 := hidg_ (Bk.new w 109 (rowOf (zbytes 8)))
    have hgl := hI.head.lt
    have HU1 := hidg_ ((Below.refl w.heap.size w).alloc (Nat.le_refl _) (.cells (rowOf (zbytes 8)) 109))
    have HH := hidg_ h
    obtain ⟨m, hm⟩ : ∃ m, Hid (l.take size = m) := ⟨_, rfl⟩
    have HM : Hid (m.length = size) := hidg_ (by rw [← hm.out, List.length_take, hI.len]; omega)
    have HB : Hid (beN (laid (zbytes 8) (8 - size) m) = beN m) := hidg_ (by
      have e : laid (zbytes 8) (8 - size) m = zbytes (8 - size) ++ m := by
        have e1 : (zbytes 8).take (8 - size) = zbytes (8 - size) := by
          unfold zbytes
          rw [List.take_replicate]
          congr 1
          omega
        unfold laid
        rw [HM.out, show 8 - size + size = 8 by omega, e1, List.drop_eq_nil_of_le (by rw [zbytes_len]; omega), List.append_nil]
      rw [e, beN_zeros])
    have HL8 : Hid ((laid (zbytes 8) (8 - size) m).length = 8) := hidg_ (by rw [laid_len (by rw [HM.out, zbytes_len]; omega), zbytes_len])
    have hlt := beN_lt m
    rw [HM.out] at hlt
    have hpow : (256 : Nat) ^ size ≤ 256 ^ 8 := Nat.pow_le_pow_right (by decide) hs8
    have h64 : (256 : Nat) ^ 8 = 18446744073709551616 := by decide
    have hx64 : beN m ≤ 18446744073709551615 := by omega
    clear hlt hpow h64
    obtain ⟨x, hx⟩ : ∃ x, Hid (beN m = x) := ⟨_, rfl⟩
    rw [hx.out] at hx64
    have HMIN : Hid (size = Nat.min n size) := hidg_ (by show size = min n size; omega)
    have HR : Hid (∀ nq, RdN ((w.alloc (.cells (rowOf (zbytes 8)) 109)).drewN nq) w.heap.size A m) := hidg_ (fun nq => by
      have h1 : RdN ((w.alloc (.cells (rowOf (zbytes 8)) 109)).drewN nq) w.heap.size A (l.take size) := (((hI.rd.take size).below HU1.out).drewN nq).rdn (Nat.le_refl _) (by simp)
      rwa [hm.out] at h1)
    have HI := hidg_ hI
    clear h hI hc0 hsz hln
    go_upto_region 4 with (go_at_call 68; ((with_reducible refine c1.mono ?_); rintro e w' ⟨rfl, rfl⟩))
    rename_i K hK
    generalize hN : w.heap.size = N at *
    refine region_quiet_tail_lit 7 (by kernel_rfl) (by kernel_rfl) ?_
    simp only [List.take_succ_cons, List.take_zero]
    repeat (go_big_quiet_want; (first
      | (refine BigFrame.quiet_move _ rfl ?_; go_simp)
      | (refine quiet_run (.int .i64 ((8 - size : Nat) : Int)) ?_ ?_; (focus (intro W hW; obtain ⟨nq, rfl⟩ := hW; go_simp; done)); go_simp)
      | (refine quiet_run (.slice (some ⟨N, 8 - size, none⟩) size size) ?_ ?_; (focus (intro W hW; obtain ⟨nq, rfl⟩ := hW; go_simp; done)); go_simp)
      | (refine quiet_run (.pointer (some ⟨g, 0, none⟩)) ?_ ?_; (focus (intro W hW; obtain ⟨nq, rfl⟩ := hW; go_simp; done)); go_simp)
      | (refine quiet_run (.slice A n c) ?_ ?_; (focus (intro W hW; obtain ⟨nq, rfl⟩ := hW; go_simp; done)); go_simp)); go_big_quiet_on)
    refine wpQuiet_nil ?_
    intro w' hw'
    obtain ⟨nq, rfl⟩ := hw'
    simp only [List.drop_succ_cons, List.drop_zero]
    refine wpList_copy8 rfl (.tmp 18) (.tmp 22) rfl N (8 - size) size size rfl A n c rfl m size HM.out hs0 HMIN.out N (HR.out nq) 109 (rowOf (zbytes 8)) (B1.out.drewN nq) (by rw [rowOf_size, zbytes_len]; omega) ?_
    intro w3 k3 g3 s3
    rw [row_laid] at k3
    have HY := hidg_ ((below_drewN HU1.out nq).grown g3 (by show N ≤ (w.alloc _).heap.size; simp; omega) (fun k hk => by injection hk with hk; omega))
    have HI3 := hidg_ (HI.out.apart (G := []) (.of_below (by rw [hN]; exact HY.out)) fun _ _ => by simp)
    have c2 := high64_yes (some ⟨N, 0, none⟩) w3.heap.size 8 (laid (zbytes 8) (8 - size) m) w3 HL8.out (k3.rd k3.lt)
    rw [HB.out, hx.out] at c2
    have c3 := int_any (x : Int) (by omega) (by omega) w3
    have HU3 : Hid (Untouched [g] w w3) := hidg_ (.of_below (by rw [hN]; exact HY.out))
    have HXM : Hid (beN (l.take size) = x) := hidg_ (by rw [hm.out, hx.out])
    clear k3 g3 s3 hc1
    have hI3 := HI3.out.head
    have hc1 := hI3.cell 1
    have hf1 := hI3.frozen 1
    simp only [List.getElem?_toArray, List.getElem?_cons_zero, List.getElem?_cons_succ] at hc1
    have HF := hidg_ (HI3.out.fail 5)
    clear hI3
    by_cases hbig : (x : Int) ≤ 9223372036854775807
    · rw [if_pos hbig, decide_eq_true hbig] at c3
      by_cases hmost : most < (x : Int)
      · have hd : decide (most < (x : Int)) = true := decide_eq_true hmost
        go_wp2_with (first
          | (go_at_call 69; ((with_reducible refine c2.mono ?_); rintro e w' ⟨rfl, rfl⟩))
          | (go_at_call 70; ((with_reducible refine c3.mono ?_); rintro e w' ⟨rfl, rfl⟩)))
        go_ret
        refine ⟨?_, ?_, HU3.out.trans (Grew.refl _ _) HF.out.2⟩ <;> rw [numS_big hl (by rw [HXM.out]; exact hmost)]
        · rfl
        · exact HF.out.1.inF
      · have hd : decide (most < (x : Int)) = false := decide_eq_false hmost
        have c4 := take_any w3 g l 0 F size HI3.out.inF (by omega)
        go_wp2_with (first
          | (go_at_call 69; ((with_reducible refine c2.mono ?_); rintro e w' ⟨rfl, rfl⟩))
          | (go_at_call 70; ((with_reducible refine c3.mono ?_); rintro e w' ⟨rfl, rfl⟩))
          | (go_at_call 71; ((with_reducible refine c4.mono ?_); rintro e w' ⟨A4, ⟨c4', rfl⟩, hR4, hI4, hU4⟩)))
        go_ret
        refine ⟨?_, ?_, HU3.out.trans (Grew.refl _ _) hU4⟩ <;> rw [numS_yes hl (by rw [HXM.out]; omega)] <;> try rw [HXM.out]
        · rfl
        · exact hI4
    · rw [if_neg hbig, decide_eq_false hbig] at c3
      go_wp2_with (first
        | (go_at_call 69; ((with_reducible refine c2.mono ?_); rintro e w' ⟨rfl, rfl⟩))
        | (go_at_call 70; ((with_reducible refine c3.mono ?_); rintro e w' ⟨rfl, rfl⟩)))
      go_ret
      refine ⟨?_, ?_, HU3.out.trans (Grew.refl _ _) HF.out.2⟩ <;> rw [numS_big hl (by rw [HXM.out]; omega)]
      · rfl
      · exact HF.out.1.inF

/-- So many bytes out of what is left. -/
def fixS (n : Int) (l : List UInt8) (err : Int) : List UInt8 × List UInt8 × Int :=
  if err ≠ 0 ∨ n ≤ 0 then ([], l, err) else if (l.length : Int) < n then ([], l, 3) else (l.take n.toNat, l.drop n.toNat, 0)
theorem fixS_off {n : Int} {l : List UInt8} {err : Int} (h : err ≠ 0 ∨ n ≤ 0) : fixS n l err = ([], l, err) := if_pos h
theorem fixS_short {n : Int} {l : List UInt8} (h0 : 0 < n) (h : (l.length : Int) < n) : fixS n l 0 = ([], l, 3) := by
  have : ¬ n ≤ 0 := by omega
  simp [fixS, h, this]
theorem fixS_yes {n : Nat} {l : List UInt8} (h0 : 0 < n) (h : n ≤ l.length) : fixS (n : Int) l 0 = (l.take n, l.drop n, 0) := by
  have h1 : ¬ ((n : Int) ≤ 0) := by omega
  have h2 : ¬ ((l.length : Int) < (n : Int)) := by omega
  simp only [fixS, h1, h2, if_false, Int.toNat_natCast, ne_eq, not_true, or_self]
def FixP (w : World) (g : Nat) (n : Int) (l : List UInt8) (err : Int) (F : List Nat) (e : Ending) (w' : World) : Prop :=
  (∃ A m c, e = .returned (.slice A m c) ∧ m = (fixS n l err).1.length ∧ Own8 w' w.heap.size (.slice A m c) (fixS n l err).1) ∧ InF w' g (fixS n l err).2.1 (fixS n l err).2.2 F ∧ Untouched [g] w w'

set_option maxRecDepth 100000 in
set_option maxHeartbeats 2000000 in
theorem infixed_any (w : World) (g : Nat) (n : Int) (l : List UInt8) (err : Int) (F : List Nat) (h : InF w g l err F) (hm : l.length ≤ 140737488355328) :
    Calls Try.prog 60 #[.pointer (some ⟨g, 0, none⟩), .int .i64 n] w (FixP w g n l err F) := by
  by_cases he : err ≠ 0 ∨ n ≤ 0
  · have c1 := has_off w g l err F n h he
    go_enter Try.func60, Try.ntmps60
    go_wp2_with (go_at_call 68; ((with_reducible refine c1.mono ?_); rintro e w' ⟨rfl, rfl⟩))
    go_ret
    refine ⟨?_, ?_, Untouched.refl _ _⟩ <;> rw [fixS_off he]
    · exact ⟨none, 0, 0, rfl, rfl, Own8.nil_ _ _⟩
    · exact h
  · have h0 : err = 0 := Decidable.byContradiction fun e => he (.inl e)
    subst h0
    obtain ⟨k, rfl⟩ : ∃ k : Nat, n = (k : Int) := ⟨n.toNat, by omega⟩
    have hk0 : 0 < k := by omega
    clear he
    by_cases hl : l.length < k
    · have c1 := has_short w g l F k h hk0 hl
      go_enter Try.func60, Try.ntmps60
      go_wp2_with (go_at_call 68; ((with_reducible refine c1.mono ?_); rintro e w' ⟨rfl, hI, hU⟩))
      go_ret
      refine ⟨?_, ?_, hU⟩ <;> rw [fixS_short (by omega) (by omega)]
      · exact ⟨none, 0, 0, rfl, rfl, Own8.nil_ _ _⟩
      · exact hI
    · have c1 := has_yes w g l F k h hk0 (by omega)
      have c2 := take_any w g l 0 F k h (by omega)
      have HL := hidg_ (show (l.take k).length = k by rw [List.length_take]; omega)
      have HK : Hid (k ≤ 140737488355328) := hidg_ (by omega)
      have HH := hidg_ h
      clear h
      go_enter Try.func60, Try.ntmps60
      go_wp2_with (first
        | (go_at_call 68; ((with_reducible refine c1.mono ?_); rintro e w' ⟨rfl, rfl⟩))
        | (go_at_call 71; ((with_reducible refine c2.mono ?_); rintro e w4 ⟨A4, ⟨c4, rfl⟩, hR4, hI4, hU4⟩); have R4 := hidg_ hR4; have I4 := hidg_ hI4; have U4 := hidg_ hU4; clear hR4 hI4 hU4)
        | (go_at_call 57; have cp := clone_any A4 k c4 (l.take k) w4 HL.out R4.out HK.out; ((with_reducible refine cp.mono ?_); clear cp; rintro e w5 ⟨A5, c5, rfl, hO5, hB5⟩; have O5 := hidg_ hO5; have B5 := hidg_ hB5; clear hO5 hB5)))
      go_ret
      refine ⟨?_, ?_, U4.out.trans (Grew.refl _ _) (.of_below B5.out)⟩ <;> rw [fixS_yes hk0 (by omega)]
      · exact ⟨A5, k, c5, rfl, HL.out.symm, O5.out.lower U4.out.size⟩
      · exact I4.out.apart (G := []) (.of_below B5.out) fun _ _ => by simp
set_option maxRecDepth 100000 in
set_option maxHeartbeats 2000000 in
theorem inbytes_any (w : World) (g : Nat) (most : Int) (l : List UInt8) (err : Int) (F : List Nat) (h : InF w g l err F) (hm : l.length ≤ 140737488355328) (w0 : -9223372036854775808 ≤ most) (w1 : most ≤ 9223372036854775807) :
    Calls Try.prog 59 #[.pointer (some ⟨g, 0, none⟩), .int .i64 most] w (FixP w g (numS 4 most l err).1 (numS 4 most l err).2.1 (numS 4 most l err).2.2 F) := by
  have c1 : Calls Try.prog 58 #[.pointer (some ⟨g, 0, none⟩), .int .i64 4, .int .i64 most] w (NumP w g 4 most l err F) := number_any w g 4 most l err F h (by omega) (by omega) w0 w1
  have hle : (numS 4 most l err).2.1.length ≤ 140737488355328 := by
    unfold numS
    split
    · exact hm
    · split
      · exact hm
      · split
        · exact hm
        · simp; omega
  have HL := hidg_ hle
  clear hle h
  unfold NumP at c1
  generalize numS 4 most l err = S at *
  go_enter Try.func59, Try.ntmps59
  go_wp2_with (first
    | (go_at_call 58; ((with_reducible refine c1.mono ?_); rintro e w4 ⟨rfl, hI4, hU4⟩); have I4 := hidg_ hI4; have U4 := hidg_ hU4; clear hI4 hU4)
    | (go_at_call 60; have cp := infixed_any w4 g S.1 S.2.1 S.2.2 F I4.out HL.out; ((with_reducible refine cp.mono ?_); clear cp; rintro e w5 ⟨⟨A5, m5, c5, rfl, hm5, hO5⟩, hI5, hU5⟩; have O5 := hidg_ hO5; have I5 := hidg_ hI5; have U5 := hidg_ hU5; have M5 := hidg_ hm5; clear hO5 hI5 hU5 hm5)))
  go_ret
  exact ⟨⟨A5, m5, c5, rfl, M5.out, O5.out.lower U4.out.size⟩, I5.out, U4.out.trans (Grew.refl _ _) U5.out⟩
set_option maxRecDepth 100000 in
set_option maxHeartbeats 1000000 in
theorem innum_any (w : World) (g : Nat) (most : Int) (l : List UInt8) (err : Int) (F : List Nat) (h : InF w g l err F) (w0 : -9223372036854775808 ≤ most) (w1 : most ≤ 9223372036854775807) :
    Calls Try.prog 33 #[.pointer (some ⟨g, 0, none⟩), .int .i64 most] w (NumP w g 8 most l err F) := by
  have c1 : Calls Try.prog 58 #[.pointer (some ⟨g, 0, none⟩), .int .i64 8, .int .i64 most] w (NumP w g 8 most l err F) := number_any w g 8 most l err F h (by omega) (by omega) w0 w1
  go_enter Try.func33, Try.ntmps33
  go_wp2_with (go_at_call 58; ((with_reducible refine c1.mono ?_); rintro e w4 ⟨rfl, hI4, hU4⟩))
  go_ret
  exact ⟨rfl, hI4, hU4⟩
set_option maxRecDepth 100000 in
set_option maxHeartbeats 1000000 in
theorem insmall_any (w : World) (g : Nat) (most : Int) (l : List UInt8) (err : Int) (F : List Nat) (h : InF w g l err F) (w0 : -9223372036854775808 ≤ most) (w1 : most ≤ 9223372036854775807) :
    Calls Try.prog 32 #[.pointer (some ⟨g, 0, none⟩), .int .i64 most] w (NumP w g 1 most l err F) := by
  have c1 : Calls Try.prog 58 #[.pointer (some ⟨g, 0, none⟩), .int .i64 1, .int .i64 most] w (NumP w g 1 most l err F) := number_any w g 1 most l err F h (by omega) (by omega) w0 w1
  go_enter Try.func32, Try.ntmps32
  go_wp2_with (go_at_call 58; ((with_reducible refine c1.mono ?_); rintro e w4 ⟨rfl, hI4, hU4⟩))
  go_ret
  exact ⟨rfl, hI4, hU4⟩
/-- The end's answer. -/
def endS (l : List UInt8) (err : Int) : Int := if err ≠ 0 then err else if 0 < l.length then 4 else 0
set_option maxRecDepth 100000 in
set_option maxHeartbeats 1000000 in
theorem end_any (w : World) (g : Nat) (l : List UInt8) (err : Int) (F : List Nat) (h : InF w g l err F) :
    Calls Try.prog 40 #[.pointer (some ⟨g, 0, none⟩)] w fun e w' => e = .returned (.int .i64 (endS l err)) ∧ w = w' := by
  obtain ⟨A, m, c, h⟩ := h.out
  have hc0 := h.head.cell 0
  have hc1 := h.head.cell 1
  simp only [List.getElem?_toArray, List.getElem?_cons_zero, List.getElem?_cons_succ] at hc0 hc1
  have hlen := h.len
  clear h
  by_cases he : err = 0
  · subst he
    by_cases hl : 0 < m
    · have hd : decide ((0 : Int) < (m : Int)) = true := decide_eq_true (by omega)
      have hd2 : decide (0 < m) = true := decide_eq_true hl
      have hE : Hid (endS l 0 = 4) := hidg_ (by unfold endS; rw [hlen]; simp [hl])
      clear hlen hl
      go_enter Try.func40, Try.ntmps40
      go_wp2
      go_ret
      exact ⟨by rw [hE.out]; rfl, rfl⟩
    · have hd : decide ((0 : Int) < (m : Int)) = false := decide_eq_false (by omega)
      have hd2 : decide (0 < m) = false := decide_eq_false hl
      have hE : Hid (endS l 0 = 0) := hidg_ (by unfold endS; rw [hlen]; simp [hl])
      clear hlen hl
      go_enter Try.func40, Try.ntmps40
      go_wp2
      go_ret
      exact ⟨by rw [hE.out]; rfl, rfl⟩
  · have hd : (err != 0) = true := by simpa using he
    have hE : Hid (endS l err = err) := hidg_ (if_pos he)
    clear hlen he
    go_enter Try.func40, Try.ntmps40
    go_wp2
    go_ret
    exact ⟨by rw [hE.out]; rfl, rfl⟩
/-- A new In, of the call's own. -/
def OfP (w : World) (l : List UInt8) (e : Ending) (w' : World) : Prop :=
  ∃ g F, e = .returned (.pointer (some ⟨g, 0, none⟩)) ∧ InF w' g l 0 F ∧ (∀ k ∈ F, w.heap.size ≤ k ∧ k < w'.heap.size) ∧ Below w.heap.size w w'
set_option maxRecDepth 100000 in
set_option maxHeartbeats 1000000 in
theorem of_any (w : World) (A : Option Addr) (n c : Nat) (l : List UInt8) (hn : l.length = n) (hr : Rd w w.heap.size A l) (hm : n ≤ 140737488355328) :
    Calls Try.prog 31 #[.slice A n c] w (OfP w l) := by
  have c1 := clone_any A n c l w hn hr hm
  have HN := hidg_ hn
  clear hr hn
  go_enter Try.func31, Try.ntmps31
  go_wp2_with (go_at_call 57; ((with_reducible refine c1.mono ?_); rintro e w1 ⟨A1, c1', rfl, hO, hB⟩; have O1 := hidg_ hO; have B1 := hidg_ hB; clear hO hB))
  go_ret
  have hcap := O1.out.cap
  obtain ⟨_, _, e1, _, hbd⟩ := O1.out.form
  have hs := B1.out.size
  refine ⟨w1.heap.size, w1.heap.size :: (Value.slice A1 n c1').ownBlock.toList, rfl, ⟨by simp, A1, c1', ?_, ?_, ?_, by rw [HN.out]; exact hcap.1, hcap.2⟩, ?_, ?_⟩
  · rw [HN.out]
    exact Bk.new w1 _ _
  · exact (O1.out.rd.1.alloc (Nat.le_refl _) _).more (by simp)
  · intro a ea
    subst ea
    have hv : (Value.slice (some a) n c1').ownBlock = some a.block := rfl
    have := hbd _ hv
    exact ⟨by simp [hv], by omega, by simp; omega⟩
  · intro k hk
    rcases List.mem_cons.1 hk with e | hk
    · subst e; simp; omega
    · have hv : (Value.slice A1 n c1').ownBlock = some k := by simpa using hk
      have := hbd _ hv
      simp
      omega
  · exact B1.out.alloc hs _
end Go.Proofs.Ytnlipmcnpekifaa
