/-
  log's laws: a row of records, and one more, in a drawn region; what a log is between two crashes.
-/
import Derived.Test.YtdlciehboimciaaLhi
namespace Go.Proofs.Ytdlciehboimciaa
set_option maxRecDepth 100000
open Go.RowKit
set_option linter.unusedVariables false
set_option linter.unusedSimpArgs false

theorem opY_len {s : DkX} (hR : s.R = []) (n t a' f : Nat) (l : List UInt8) (hl : f + l.length ≤ 600000) : (opY s n t a' f l).R.length ≤ 1000000 := by
  have h1 := filX_len hR n a' f l hl
  have h2 : ∀ y : DkX, (syX y).R.length ≤ y.R.length := fun y => by
    unfold syX
    split
    · exact Nat.le_refl _
    · split <;> simp
  unfold opY tellX
  have h3 := h2 (wrX (filX s n a' f l) ((t + 1) % 2) (headB (t + 1) a' (f + l.length)))
  have h4 := wrX_len (filX s n a' f l) ((t + 1) % 2) (headB (t + 1) a' (f + l.length))
  omega
/-- A log while its power may go: it is on, and what is next is what is sure; or it is off, and a crash leaves either. -/
structure FaS (w W : World) (g p q n t a : Nat) (S N : List (List UInt8)) (y : DkX) : Prop where
  dk : DkJ w.heap.size W p q n y
  on : y.off = false → LogV w.heap.size W g p q n t a S y ∧ N = S
  of : y.off = true → ∃ a', ∀ st, HoldsL n t a S (appl y.F (kept y.R st)) ∨ HoldsL n (t + 1) a' N (appl y.F (kept y.R st))
  yR : y.R.length ≤ 1000000
  be : Below w.heap.size w W
theorem FaS.crash {w W : World} {g p q n t a : Nat} {S N : List (List UInt8)} {y : DkX} (h : FaS w W g p q n t a S N y) (st : List Bool) : HoldsL n t a S (appl y.F (kept y.R st)) ∨ (y.off = true ∧ ∃ a', HoldsL n (t + 1) a' N (appl y.F (kept y.R st))) := by
  cases ho : y.off with
  | true =>
    obtain ⟨a', h1⟩ := h.of ho
    rcases h1 st with h2 | h2
    · exact .inl h2
    · exact .inr ⟨rfl, a', h2⟩
  | false =>
    obtain ⟨h1, _⟩ := h.on ho
    rw [h1.sR, kept_nil, appl_nil]
    exact .inl h1.ho
theorem FaS.below {w W W' : World} {g p q n t a : Nat} {S N : List (List UInt8)} {y : DkX} (h : FaS w W g p q n t a S N y) (hb : Below W.heap.size W W') : FaS w W' g p q n t a S N y :=
  ⟨DkI.below h.dk hb, fun e => ⟨(h.on e).1.below hb, (h.on e).2⟩, h.of, h.yR, h.be.trans (hb.mono h.be.size)⟩
theorem FaS.start {w W : World} {g p q n t a : Nat} {S : List (List UInt8)} {y : DkX} (h : LogV w.heap.size W g p q n t a S y) (hb : Below w.heap.size w W) : FaS w W g p q n t a S S y :=
  ⟨h.dk, fun _ => ⟨h, rfl⟩, fun e => (by rw [h.on] at e; cases e), by rw [h.sR]; simp, hb⟩
/-- Behind an act that is done. -/
theorem FaS.done {w W W' : World} {g p q n t a a' f : Nat} {S N : List (List UInt8)} {y : DkX} {l : List UInt8} {e : Ending} (h : LogV w.heap.size W g p q n t a S y) (hb : Below w.heap.size w W) (hp : OpP w.heap.size W g p q n t a' N (opY y n t a' f l) e W') (hl : f + l.length ≤ 600000) (ho : (opY y n t a' f l).off = false) : FaS w W' g p q n (t + 1) a' N N (opY y n t a' f l) :=
  ⟨hp.dk, fun _ => ⟨hp.ok ho, rfl⟩, fun e => (by rw [ho] at e; cases e), opY_len h.sR _ _ _ _ _ hl, hb.trans hp.be⟩
/-- Behind one that broke off. -/
theorem FaS.fell {w W W' : World} {g p q n t a a' f : Nat} {S N : List (List UInt8)} {y : DkX} {l : List UInt8} {e : Ending} (h : LogV w.heap.size W g p q n t a S y) (hb : Below w.heap.size w W) (hp : OpP w.heap.size W g p q n t a' N (opY y n t a' f l) e W') (hl : f + l.length ≤ 600000) (ho : (opY y n t a' f l).off = true)
    (hc : ∀ st, HoldsL n t a S (appl (opY y n t a' f l).F (kept (opY y n t a' f l).R st)) ∨ HoldsL n (t + 1) a' N (appl (opY y n t a' f l).F (kept (opY y n t a' f l).R st))) : FaS w W' g p q n t a S N (opY y n t a' f l) :=
  ⟨hp.dk, fun e => (by rw [ho] at e; cases e), fun _ => ⟨a', hc⟩, opY_len h.sR _ _ _ _ _ hl, hb.trans hp.be⟩
/-- What holds in the region that makes a row and one more: i0 .. the places. -/
structure FnJ (base : Nat) (wr : World) (kk rn k5 : Nat) (a5 : Option Addr) (r : List UInt8) (S : List (List UInt8)) (D : Nat → Bool) (a : Act) (W : World) : Prop where
  l2 : D 2 = true → D 0 = true
  l72 : D 7 = true → D 2 = true
  l76 : D 7 = true → D 6 = true
  l8 : D 8 = true → D 7 = true
  be : Below wr.heap.size wr W
  z : D 0 = true → D 2 = false → ∃ g, wr.heap.size ≤ g ∧ a.tmps.getD 93 undef = .slice (some ⟨g, 0, none⟩) 0 0 ∧ RecT W base (.slice (some ⟨g, 0, none⟩) 0 0) []
  e : D 2 = true → D 7 = false → ∃ A c, a.tmps.getD 95 undef = .slice A kk c ∧ RecT W base (.slice A kk c) S ∧ (∀ g, (Value.slice A kk c).ownBlock = some g → wr.heap.size ≤ g)
  o : D 6 = true → D 7 = false → ∃ g, wr.heap.size ≤ g ∧ a.tmps.getD 99 undef = .slice (some ⟨g, 0, none⟩) 1 1 ∧ W.cell? ⟨g, 0, none⟩ = some (.slice a5 rn k5)
  f : D 7 = true → ∃ A c, a.tmps.getD 100 undef = .slice A (kk + 1) c ∧ RecT W base (.slice A (kk + 1) c) (S ++ [r])
  h : D 8 = true → ∃ A c, a.tmps.getD 10 undef = .slice A (kk + 1) c ∧ RecT W base (.slice A (kk + 1) c) (S ++ [r])
section
variable {base : Nat} {wr : World} {kk rn k5 : Nat} {a5 : Option Addr} {r : List UInt8} {S : List (List UInt8)} {D : Nat → Bool} {a : Act} {W W' : World}
theorem FnJ.no7 (h : FnJ base wr kk rn k5 a5 r S D a W) (e : D 2 = false) : D 7 = false := by cases q : D 7 with | false => rfl | true => rw [h.l72 q] at e; cases e
theorem FnJ.no7' (h : FnJ base wr kk rn k5 a5 r S D a W) (e : D 6 = false) : D 7 = false := by cases q : D 7 with | false => rfl | true => rw [h.l76 q] at e; cases e
theorem FnJ.no2 (h : FnJ base wr kk rn k5 a5 r S D a W) (e : D 0 = false) : D 2 = false := by cases q : D 2 with | false => rfl | true => rw [h.l2 q] at e; cases e
theorem FnJ.no8 (h : FnJ base wr kk rn k5 a5 r S D a W) (e : D 7 = false) : D 8 = false := by cases q : D 8 with | false => rfl | true => rw [h.l8 q] at e; cases e
theorem FnJ.same (h : FnJ base wr kk rn k5 a5 r S D a W) (i s : Nat) (v : Value) (hi : 0 ≠ i ∧ 2 ≠ i ∧ 6 ≠ i ∧ 7 ≠ i ∧ 8 ≠ i) (hs : 93 ≠ s ∧ 95 ≠ s ∧ 99 ≠ s ∧ 100 ≠ s ∧ 10 ≠ s) : FnJ base wr kk rn k5 a5 r S (fun j => decide (j = i) || D j) (a.put (some s) v) W := by
  obtain ⟨i1, i2, i3, i4, i5⟩ := hi
  obtain ⟨s1, s2, s3, s4, s5⟩ := hs
  refine ⟨?_, ?_, ?_, ?_, h.be, ?_, ?_, ?_, ?_, ?_⟩ <;> (try rw [orf_ne i1]) <;> (try rw [orf_ne i2]) <;> (try rw [orf_ne i3]) <;> (try rw [orf_ne i4]) <;> (try rw [orf_ne i5]) <;> (try rw [put_otherD s1]) <;> (try rw [put_otherD s2]) <;> (try rw [put_otherD s3]) <;> (try rw [put_otherD s4]) <;> (try rw [put_otherD s5])
  · exact h.l2
  · exact h.l72
  · exact h.l76
  · exact h.l8
  · exact h.z
  · exact h.e
  · exact h.o
  · exact h.f
  · exact h.h
/-- The empty row. -/
theorem FnJ.lay (h : FnJ base wr kk rn k5 a5 r S D a W) (hb : base ≤ W.heap.size) (hL : D 0 = false) (hsz : 93 < a.tmps.size) : FnJ base wr kk rn k5 a5 r S (fun j => decide (j = 0) || D j) (a.put (some 93) (.slice (some ⟨W.heap.size, 0, none⟩) 0 0)) (W.alloc (.cells #[] 39)) := by
  have h2 := h.no2 hL
  have h7 := h.no7 h2
  have h8 := h.no8 h7
  have hbw : Below W.heap.size W (W.alloc (.cells #[] 39)) := (Below.refl _ _).alloc (Nat.le_refl _) _
  refine ⟨fun _ => by simp, fun e => ?_, fun e => ?_, fun e => ?_, h.be.alloc h.be.size _, fun _ _ => ⟨W.heap.size, h.be.size, put_selfD hsz, RecT.lit0 W _ hb⟩, fun e => ?_, fun e e2 => ?_, fun e => ?_, fun e => ?_⟩
  · rw [orf_ne (by decide), h7] at e; cases e
  · rw [orf_ne (by decide), h7] at e; cases e
  · rw [orf_ne (by decide), h8] at e; cases e
  · rw [orf_ne (by decide), h2] at e; cases e
  · rw [orf_ne (by decide)] at e e2
    obtain ⟨g, q1, q2, q3⟩ := h.o e e2
    exact ⟨g, q1, (put_otherD (by decide)).trans q2, (hbw.cell (p := ⟨g, 0, none⟩) (World.block_lt_of_cell? W _ q3)).trans q3⟩
  · rw [orf_ne (by decide), h7] at e; cases e
  · rw [orf_ne (by decide), h8] at e; cases e
/-- The row is copied. -/
theorem FnJ.app (h : FnJ base wr kk rn k5 a5 r S D a W) (h0 : D 0 = true) (hL : D 2 = false) (hsz : 95 < a.tmps.size) {g : Nat} (hg : wr.heap.size ≤ g) (hR : RecT W base (.slice (some ⟨g, 0, none⟩) 0 0) []) {A : Option Addr} {c : Nat} (hR' : RecT W' base (.slice A kk c) S) (hgr : W.grownBy W' (some g)) (hv : (Value.slice A kk c).ownBlock = some g ∨ (Value.slice A kk c).ownBlock = some W.heap.size) : FnJ base wr kk rn k5 a5 r S (fun j => decide (j = 2) || D j) (a.put (some 95) (.slice A kk c)) W' := by
  have h7 := h.no7 hL
  have h8 := h.no8 h7
  have hno : ∀ v, W.cell? ⟨g, 0, none⟩ ≠ some v := fun v hv => by
    obtain ⟨vs, h1, _⟩ := hR
    rcases h1.2 with ⟨hq, _⟩ | ⟨g', cap, cur, hq, _, hh, _, _, hs, _⟩
    · cases hq
    · injection hq with e1 e2 e3
      injection e1 with e1
      injection e1 with e1
      subst e1 e3
      simp [World.cell?, hh] at hv
      have h0' : cur.size = 0 := by omega
      have : cur[0]? = none := Array.getElem?_eq_none (by omega)
      simp [this] at hv
  refine ⟨fun _ => by simp [h0], fun e => ?_, fun e => ?_, fun e => ?_, h.be.grown hgr h.be.size (fun k e => by injection e with e; omega), fun _ e => ?_, fun _ _ => ⟨A, c, put_selfD hsz, hR', fun k hk => ?_⟩, fun e e2 => ?_, fun e => ?_, fun e => ?_⟩
  · rw [orf_ne (by decide), h7] at e; cases e
  · rw [orf_ne (by decide), h7] at e; cases e
  · rw [orf_ne (by decide), h8] at e; cases e
  · rw [orf_eq] at e; cases e
  · rcases hv with hv | hv
    · rw [hv] at hk; injection hk with hk; omega
    · rw [hv] at hk; injection hk with hk; have := h.be.size; omega
  · rw [orf_ne (by decide)] at e e2
    obtain ⟨g2, q1, q2, q3⟩ := h.o e e2
    refine ⟨g2, q1, (put_otherD (by decide)).trans q2, ?_⟩
    have hne : g2 ≠ g := fun e0 => by subst e0; exact hno _ q3
    exact (World.cell?_of_block (hgr.block g2 (World.block_lt_of_cell? W _ q3) (fun e0 => by injection e0 with e0; exact hne e0))).trans q3
  · rw [orf_ne (by decide), h7] at e; cases e
  · rw [orf_ne (by decide), h8] at e; cases e
/-- The one more. -/
theorem FnJ.one (h : FnJ base wr kk rn k5 a5 r S D a W) (hL : D 6 = false) (hsz : 99 < a.tmps.size) : FnJ base wr kk rn k5 a5 r S (fun j => decide (j = 6) || D j) (a.put (some 99) (.slice (some ⟨W.heap.size, 0, none⟩) 1 1)) (W.alloc (.cells #[.slice a5 rn k5] 39)) := by
  have h7 := h.no7' hL
  have h8 := h.no8 h7
  have hbw : Below W.heap.size W (W.alloc (.cells #[.slice a5 rn k5] 39)) := (Below.refl _ _).alloc (Nat.le_refl _) _
  have hc : (W.alloc (.cells #[.slice a5 rn k5] 39)).cell? ⟨W.heap.size, 0, none⟩ = some (.slice a5 rn k5) := by
    have := (Bk.new W 39 #[.slice a5 rn k5]).cell 0
    simp only [List.getElem?_toArray, List.getElem?_cons_zero] at this
    exact this
  refine ⟨fun e => ?_, fun e => ?_, fun e => ?_, fun e => ?_, h.be.alloc h.be.size _, fun e e2 => ?_, fun e e2 => ?_, fun _ _ => ⟨W.heap.size, h.be.size, put_selfD hsz, hc⟩, fun e => ?_, fun e => ?_⟩
  · rw [orf_ne (by decide)] at e ⊢; exact h.l2 e
  · rw [orf_ne (by decide), h7] at e; cases e
  · rw [orf_ne (by decide), h7] at e; cases e
  · rw [orf_ne (by decide), h8] at e; cases e
  · rw [orf_ne (by decide)] at e e2
    obtain ⟨g, q1, q2, q3⟩ := h.z e e2
    exact ⟨g, q1, (put_otherD (by decide)).trans q2, q3.below hbw⟩
  · rw [orf_ne (by decide)] at e e2
    obtain ⟨A, c, q1, q2, q3⟩ := h.e e e2
    exact ⟨A, c, (put_otherD (by decide)).trans q1, q2.below hbw, q3⟩
  · rw [orf_ne (by decide), h7] at e; cases e
  · rw [orf_ne (by decide), h8] at e; cases e
/-- Both. -/
theorem FnJ.two (h : FnJ base wr kk rn k5 a5 r S D a W) (h2 : D 2 = true) (h6 : D 6 = true) (hL : D 7 = false) (hsz : 100 < a.tmps.size) {A : Option Addr} {c : Nat} (hR : RecT W' base (.slice A (kk + 1) c) (S ++ [r])) (hb : Below wr.heap.size wr W') : FnJ base wr kk rn k5 a5 r S (fun j => decide (j = 7) || D j) (a.put (some 100) (.slice A (kk + 1) c)) W' := by
  have h8 := h.no8 hL
  refine ⟨fun e => ?_, fun _ => by simp [h2], fun _ => by simp [h6], fun _ => by simp, hb, fun _ e => ?_, fun _ e => ?_, fun _ e => ?_, fun _ => ⟨A, c, put_selfD hsz, hR⟩, fun e => ?_⟩
  · rw [orf_ne (by decide)] at e ⊢; exact h.l2 e
  · rw [orf_ne (by decide), h2] at e; cases e
  · rw [orf_eq] at e; cases e
  · rw [orf_eq] at e; cases e
  · rw [orf_ne (by decide), h8] at e; cases e
theorem FnJ.done (h : FnJ base wr kk rn k5 a5 r S D a W) (h7 : D 7 = true) (hsz : 10 < a.tmps.size) {A : Option Addr} {c : Nat} (hs : a.tmps.getD 100 undef = .slice A (kk + 1) c) (hR : RecT W base (.slice A (kk + 1) c) (S ++ [r])) : FnJ base wr kk rn k5 a5 r S (fun j => decide (j = 8) || D j) (a.put (some 10) (.slice A (kk + 1) c)) W := by
  have h2 := h.l72 h7
  refine ⟨fun e => ?_, fun e => ?_, fun e => ?_, fun _ => by simp [h7], h.be, fun _ e => ?_, fun _ e => ?_, fun _ e => ?_, fun _ => ⟨A, c, (put_otherD (by decide)).trans hs, hR⟩, fun _ => ⟨A, c, put_selfD hsz, hR⟩⟩
  · rw [orf_ne (by decide)] at e ⊢; exact h.l2 e
  · rw [orf_ne (by decide)] at e ⊢; exact h.l72 e
  · rw [orf_ne (by decide)] at e ⊢; exact h.l76 e
  · rw [orf_ne (by decide), h2] at e; cases e
  · rw [orf_ne (by decide), h7] at e; cases e
  · rw [orf_ne (by decide), h7] at e; cases e
end
end Go.Proofs.Ytdlciehboimciaa
