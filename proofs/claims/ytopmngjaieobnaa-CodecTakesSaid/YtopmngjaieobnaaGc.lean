/-
  For CodecTakes: what stands while the code's In and the reference's are asked side by side.
-/
import Derived.Test.YtopmngjaieobnaaGb
namespace Go.Proofs.Ytopmngjaieobnaa
open Go.RowKit
set_option linter.unusedVariables false
set_option linter.unusedSimpArgs false

/-- What stands in both loops. -/
structure TkS (w : World) (gr gi : Nat) (F : List Nat) (l l' : List UInt8) (err : Int) (z : Nat) (W : World) : Prop where
  ref : RiF W gr l' err
  inp : InF W gi l err F
  same : err = 0 → l' = l
  len : l.length ≤ z
  far : gr ∉ F
  low : w.heap.size ≤ gr ∧ w.heap.size ≤ gi
  below : Below w.heap.size w W
section
variable {w W W1 W2 : World} {gr gi z b k : Nat} {F : List Nat} {l l' l2 l2' : List UInt8} {err e2 : Int}
theorem TkS.turn (h : TkS w gr gi F l l' err z W) (hg : b ≠ gr) (hF : b ∉ F) (hb : w.heap.size ≤ b) (v : Value) : TkS w gr gi F l l' err z (W.setCell ⟨b, k, none⟩ v) :=
  ⟨Bk.far h.ref (p := ⟨b, k, none⟩) (fun e => hg e.symm) v, h.inp.apart (G := [b]) (Untouched.set b k (by simp) v) (fun j hj hm => by rcases List.mem_singleton.1 hm with rfl; exact hF hj), h.same, h.len, h.far, h.low, h.below.setCell (p := ⟨b, k, none⟩) hb v⟩
theorem TkS.ne (h : TkS w gr gi F l l' err z W) : gr ≠ gi := fun e => h.far (e ▸ h.inp.1)
theorem TkS.mid (h : TkS w gr gi F l l' err z W) (hU : Untouched [gi] W W1) : RiF W1 gr l' err :=
  Bk.untouched h.ref hU (by simpa using h.ne)
theorem TkS.next (h : TkS w gr gi F l l' err z W) (hI : InF W1 gi l2 e2 F) (hU : Untouched [gi] W W1) (hR : RiF W2 gr l2' e2) (hs : e2 = 0 → l2' = l2) (hU2 : Untouched [gr] W1 W2) (hl : l2.length ≤ l.length) : TkS w gr gi F l2 l2' e2 z W2 := by
  refine ⟨hR, hI.apart hU2 fun j hj hm => ?_, hs, Nat.le_trans hl h.len, h.far, h.low, ?_⟩
  · rcases List.mem_singleton.1 hm with rfl
    exact h.far hj
  · have h1 := h.below.size
    have x1 := hU.below (B := w.heap.size) (fun j hj => by rcases List.mem_singleton.1 hj with rfl; exact h.low.2) h1
    have x2 := hU2.below (B := w.heap.size) (fun j hj => by rcases List.mem_singleton.1 hj with rfl; exact h.low.1) (Nat.le_trans h1 x1.size)
    exact (h.below.trans x1).trans x2
/-- Numbers, asked of both. -/
theorem num_both (h : TkS w gr gi F l l' err z W) (p : Int) (w0 : -9223372036854775808 ≤ p) (w1 : p ≤ 9223372036854775807) : ∃ x l2 e2, l2.length ≤ l.length ∧
    Calls Try.prog 29 #[.pointer (some ⟨gi, 0, none⟩), .int .i64 p] W (fun e w' => e = .returned (.int .i64 x) ∧ InF w' gi l2 e2 F ∧ Untouched [gi] W w') ∧
    ∀ W', RiF W' gr l' err → Calls Try.prog 35 #[.pointer (some ⟨gr, 0, none⟩), .int .i64 p] W' (fun e w' => e = .returned (.int .i64 x) ∧ (∃ l2', RiF w' gr l2' e2 ∧ (e2 = 0 → l2' = l2)) ∧ Untouched [gr] W' w') := by
  refine ⟨(numS 8 p l err).1, (numS 8 p l err).2.1, (numS 8 p l err).2.2, numS_le _ _ _ _, innum_any W gi p l err F h.inp w0 w1, fun W' hR => (refnum_any W' gr p l' err hR w0 w1).mono fun e w' hh => ?_⟩
  obtain ⟨h1, h2, h3⟩ := hh
  obtain ⟨s1, s2, s3⟩ := numS_same 8 p l l' err h.same
  rw [s1] at h1
  rw [s2] at h2
  exact ⟨h1, ⟨_, h2, s3⟩, h3⟩
theorem small_both (h : TkS w gr gi F l l' err z W) (p : Int) (w0 : -9223372036854775808 ≤ p) (w1 : p ≤ 9223372036854775807) : ∃ x l2 e2, l2.length ≤ l.length ∧
    Calls Try.prog 30 #[.pointer (some ⟨gi, 0, none⟩), .int .i64 p] W (fun e w' => e = .returned (.int .i64 x) ∧ InF w' gi l2 e2 F ∧ Untouched [gi] W w') ∧
    ∀ W', RiF W' gr l' err → Calls Try.prog 36 #[.pointer (some ⟨gr, 0, none⟩), .int .i64 p] W' (fun e w' => e = .returned (.int .i64 x) ∧ (∃ l2', RiF w' gr l2' e2 ∧ (e2 = 0 → l2' = l2)) ∧ Untouched [gr] W' w') := by
  refine ⟨(numS 1 p l err).1, (numS 1 p l err).2.1, (numS 1 p l err).2.2, numS_le _ _ _ _, insmall_any W gi p l err F h.inp w0 w1, fun W' hR => (refsmall_any W' gr p l' err hR w0 w1).mono fun e w' hh => ?_⟩
  obtain ⟨h1, h2, h3⟩ := hh
  obtain ⟨s1, s2, s3⟩ := numS_same 1 p l l' err h.same
  rw [s1] at h1
  rw [s2] at h2
  exact ⟨h1, ⟨_, h2, s3⟩, h3⟩
/-- Bytes, asked of both, in whatever order. -/
theorem fixed_both (h : TkS w gr gi F l l' err z W) (hz : z ≤ 140737488355328) (p : Int) (w0 : -9223372036854775808 ≤ p) (w1 : p ≤ 9223372036854775807) : ∃ y l2 e2, l2.length ≤ l.length ∧
    (∀ W', InF W' gi l err F → Calls Try.prog 31 #[.pointer (some ⟨gi, 0, none⟩), .int .i64 p] W' (fun e w' => (∃ A m c, e = .returned (.slice A m c) ∧ (y : List UInt8).length = m ∧ Own8 w' W'.heap.size (.slice A m c) y) ∧ InF w' gi l2 e2 F ∧ Untouched [gi] W' w')) ∧
    ∀ W', RiF W' gr l' err → Calls Try.prog 37 #[.pointer (some ⟨gr, 0, none⟩), .int .i64 p] W' (fun e w' => e = .returned (.string (strOf y)) ∧ (∃ l2', RiF w' gr l2' e2 ∧ (e2 = 0 → l2' = l2)) ∧ Untouched [gr] W' w') := by
  refine ⟨(fixS p l err).1, (fixS p l err).2.1, (fixS p l err).2.2, fixS_le _ _ _, fun W' hI => (infixed_any W' gi p l err F hI (Nat.le_trans h.len hz)).mono fun e w' hh => ?_, fun W' hR => (reffixed_any W' gr p l' err hR w0 w1).mono fun e w' hh => ?_⟩
  · obtain ⟨⟨A, m, c, h1, h2, h3⟩, h4, h5⟩ := hh
    exact ⟨⟨A, m, c, h1, h2.symm, h3⟩, h4, h5⟩
  · obtain ⟨h1, h2, h3⟩ := hh
    obtain ⟨s1, s2, s3⟩ := fixS_same p l l' err h.same
    rw [s1] at h1
    rw [s2] at h2
    exact ⟨h1, ⟨_, h2, s3⟩, h3⟩
theorem bytes_both (h : TkS w gr gi F l l' err z W) (hz : z ≤ 140737488355328) (p : Int) (w0 : -9223372036854775808 ≤ p) (w1 : p ≤ 9223372036854775807) : ∃ y l2 e2, l2.length ≤ l.length ∧
    (∀ W', InF W' gi l err F → Calls Try.prog 32 #[.pointer (some ⟨gi, 0, none⟩), .int .i64 p] W' (fun e w' => (∃ A m c, e = .returned (.slice A m c) ∧ (y : List UInt8).length = m ∧ Own8 w' W'.heap.size (.slice A m c) y) ∧ InF w' gi l2 e2 F ∧ Untouched [gi] W' w')) ∧
    ∀ W', RiF W' gr l' err → Calls Try.prog 38 #[.pointer (some ⟨gr, 0, none⟩), .int .i64 p] W' (fun e w' => e = .returned (.string (strOf y)) ∧ (∃ l2', RiF w' gr l2' e2 ∧ (e2 = 0 → l2' = l2)) ∧ Untouched [gr] W' w') := by
  refine ⟨(bytS p l err).1, (bytS p l err).2.1, (bytS p l err).2.2, bytS_le _ _ _, fun W' hI => (inbytes_any W' gi p l err F hI (Nat.le_trans h.len hz) w0 w1).mono fun e w' hh => ?_, fun W' hR => (refbytes_any W' gr p l' err hR (fun e => by rw [h.same e]; exact Nat.le_trans h.len hz) w0 w1).mono fun e w' hh => ?_⟩
  · obtain ⟨⟨A, m, c, h1, h2, h3⟩, h4, h5⟩ := hh
    exact ⟨⟨A, m, c, h1, h2.symm, h3⟩, h4, h5⟩
  · obtain ⟨h1, ⟨l2', h2, h4⟩, h3⟩ := hh
    obtain ⟨s1, s2, s3⟩ := bytS_same p l l' err h.same
    rw [s1] at h1
    rw [s2] at h2 h4
    exact ⟨h1, ⟨l2', h2, fun e => (h4 e).trans (s3 e)⟩, h3⟩
end
theorem Untouched.wide {F G : List Nat} {w w' : World} (h : Untouched F w w') (hs : ∀ k ∈ F, k ∈ G) : Untouched G w w' := ⟨h.os, h.tape, h.output, h.size, fun k hk hn => h.block k hk fun hm => hn (hs k hm)⟩
theorem own_rdf {w2 : World} {B m c : Nat} {F : List Nat} {A : Option Addr} {y : List UInt8} (hO : Own8 w2 B (.slice A m c) y) (h : ∀ k ∈ F, k < B) : RdF w2 F A y := fun hn => by
  obtain ⟨_, _, _, _, hbd⟩ := hO.form
  obtain ⟨b, off, e, hlt, hc⟩ := hO.rd.1 hn
  refine ⟨b, off, e, fun hm => ?_, hlt, hc⟩
  have h1 := (hbd b (by rw [e]; rfl)).1
  have h2 := h b hm
  omega
theorem TkS.next2 {w W W2 : World} {gr gi z : Nat} {F : List Nat} {l l' l2 l2' : List UInt8} {err e2 : Int} (h : TkS w gr gi F l l' err z W) (hI : InF W2 gi l2 e2 F) (hR : RiF W2 gr l2' e2) (hs : e2 = 0 → l2' = l2) (hU : Untouched [gi, gr] W W2) (hl : l2.length ≤ l.length) : TkS w gr gi F l2 l2' e2 z W2 := by
  refine ⟨hR, hI, hs, Nat.le_trans hl h.len, h.far, h.low, h.below.trans (hU.below (fun j hj => ?_) h.below.size)⟩
  have h1 := h.low
  rcases List.mem_cons.1 hj with rfl | hj
  · exact h1.2
  · rcases List.mem_singleton.1 hj with rfl
    exact h1.1
/-- While both are asked in whatever order. -/
structure TkJ (gi gr : Nat) (F : List Nat) (l l' l2 : List UInt8) (err e2 : Int) (D : Nat → Bool) (W : World) : Prop where
  i0 : D 2 = false → InF W gi l err F
  i1 : D 2 = true → InF W gi l2 e2 F
  r0 : D 6 = false → RiF W gr l' err
  r1 : D 6 = true → ∃ l2', RiF W gr l2' e2 ∧ (e2 = 0 → l2' = l2)
section
variable {gi gr : Nat} {F : List Nat} {l l' l2 : List UInt8} {err e2 : Int} {D : Nat → Bool} {W W' : World}
theorem TkJ.start (hI : InF W gi l err F) (hR : RiF W gr l' err) : TkJ gi gr F l l' l2 err e2 (fun _ => false) W := ⟨fun _ => hI, fun e => Bool.noConfusion e, fun _ => hR, fun e => Bool.noConfusion e⟩
theorem TkJ.same (h : TkJ gi gr F l l' l2 err e2 D W) (i : Nat) (h2 : i ≠ 2) (h6 : i ≠ 6) : TkJ gi gr F l l' l2 err e2 (fun j => decide (j = i) || D j) W := by
  have a2 := orf_ne (L := D) (i := i) (fun e : 2 = i => h2 e.symm)
  have a6 := orf_ne (L := D) (i := i) (fun e : 6 = i => h6 e.symm)
  obtain ⟨i0, i1, r0, r1⟩ := h
  refine ⟨?_, ?_, ?_, ?_⟩ <;> simp only [a2, a6]
  · exact i0
  · exact i1
  · exact r0
  · exact r1
theorem TkJ.take (h : TkJ gi gr F l l' l2 err e2 D W) (hne : gr ≠ gi) (hI : InF W' gi l2 e2 F) (hU : Untouched [gi] W W') : TkJ gi gr F l l' l2 err e2 (fun j => decide (j = 2) || D j) W' := by
  have a6 := orf_ne (L := D) (show 6 ≠ 2 by omega)
  obtain ⟨i0, i1, r0, r1⟩ := h
  refine ⟨?_, ?_, ?_, ?_⟩ <;> simp only [a6]
  · intro e; simp at e
  · exact fun _ => hI
  · exact fun e => Bk.untouched (r0 e) hU (by simpa using hne)
  · intro e
    obtain ⟨l3, h3, h4⟩ := r1 e
    exact ⟨l3, Bk.untouched h3 hU (by simpa using hne), h4⟩
theorem TkJ.ask (h : TkJ gi gr F l l' l2 err e2 D W) (hfar : gr ∉ F) (hR : ∃ l2', RiF W' gr l2' e2 ∧ (e2 = 0 → l2' = l2)) (hU : Untouched [gr] W W') : TkJ gi gr F l l' l2 err e2 (fun j => decide (j = 6) || D j) W' := by
  have a2 := orf_ne (L := D) (show 2 ≠ 6 by omega)
  have hd : ∀ k ∈ F, k ∉ [gr] := fun k hk hm => by rcases List.mem_singleton.1 hm with rfl; exact hfar hk
  obtain ⟨i0, i1, r0, r1⟩ := h
  refine ⟨?_, ?_, ?_, ?_⟩ <;> simp only [a2]
  · exact fun e => (i0 e).apart hU hd
  · exact fun e => (i1 e).apart hU hd
  · intro e; simp at e
  · exact fun _ => hR
end
/-- What each operation leaves. -/
def TkR (gi gr : Nat) (p : Int) (y : List UInt8) : Nat → Value → World → Prop
  | 0, v, _ => v = .pointer (some ⟨gi, 0, none⟩)
  | 1, v, _ => v = .int .i64 p
  | 2, v, W => ∃ A m c, v = .slice A m c ∧ y.length = m ∧ RdF W [gi, gr] A y
  | 3, v, _ => v = .string (strOf y)
  | 4, v, _ => v = .pointer (some ⟨gr, 0, none⟩)
  | 5, v, _ => v = .int .i64 p
  | 6, v, _ => v = .string (strOf y)
  | 7, v, _ => v = .bool true
  | 8, v, _ => v = .bool true
  | _, _, _ => True
theorem TkR.stable {gi gr : Nat} {p : Int} {y : List UInt8} {W W' : World} (hT : Untouched [gi, gr] W W') : ∀ (j : Nat) (v : Value), TkR gi gr p y j v W → TkR gi gr p y j v W'
  | 0, _, h => h
  | 1, _, h => h
  | 2, _, h => by
    obtain ⟨A, m, c, h1, h2, h3⟩ := h
    exact ⟨A, m, c, h1, h2, h3.keep hT (Grew.refl _ _)⟩
  | 3, _, h => h
  | 4, _, h => h
  | 5, _, h => h
  | 6, _, h => h
  | 7, _, h => h
  | 8, _, h => h
  | _ + 9, _, _ => trivial
end Go.Proofs.Ytopmngjaieobnaa
