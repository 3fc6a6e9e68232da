/-
  Both disks, act by act.
-/
import Derived.Test.YtibnfldddpmafaaDku
namespace Go.Proofs.Ytibnfldddpmafaa
open Go.RowKit
set_option linter.unusedVariables false
set_option linter.unusedSimpArgs false

/-- A disk by value. -/
structure DkS where
  F : List (List UInt8)
  R : List WrV
  fu : Nat
  off : Bool
def DkJ (B : Nat) (w : World) (p q n : Nat) (s : DkS) : Prop := DkI B w p q n s.F s.R s.fu s.off
def RfJ (B : Nat) (w : World) (p q n : Nat) (s : DkS) : Prop := RfI B w p q n s.F s.R s.fu s.off
def wrS (n : Nat) (s : DkS) (z : Int) (D : List UInt8) : DkS := if hasE n s.off z = 0 then ⟨s.F, s.R ++ [(z.toNat, D)], s.fu - 1, burnO s.fu s.off⟩ else s
def wrZ (n : Nat) (s : DkS) (z : Int) : Int := if hasE n s.off z = 0 then burnE s.fu else hasE n s.off z
def syS (s : DkS) : DkS := if s.off = true then s else if s.fu = 1 then ⟨s.F, s.R, 0, true⟩ else ⟨appl s.F s.R, [], s.fu - 1, false⟩
def syZ (s : DkS) : Int := if s.off = true then 9 else if s.fu = 1 then 9 else 0
def fuS (s : DkS) (f : Nat) : DkS := ⟨s.F, s.R, f, s.off⟩
def crS (s : DkS) (S : List Bool) : DkS := ⟨appl s.F (kept s.R S), [], 0, false⟩
theorem wrS_len (n : Nat) (s : DkS) (z : Int) (D : List UInt8) : (wrS n s z D).R.length ≤ s.R.length + 1 := by
  unfold wrS
  split
  · simp
  · omega
theorem syS_len (s : DkS) : (syS s).R.length ≤ s.R.length := by
  unfold syS
  split
  · exact Nat.le_refl _
  · split
    · exact Nat.le_refl _
    · simp
theorem has_ok2 {n : Nat} {off : Bool} {z : Int} (h : hasE n off z = 0) : off = false ∧ 0 ≤ z ∧ z < (n : Int) := by
  unfold hasE at h
  cases off
  · rw [if_neg (by decide)] at h
    split at h
    · cases h
    · exact ⟨rfl, by omega, by omega⟩
  · rw [if_pos rfl] at h
    cases h
section
variable {B : Nat} {w w' : World} {p q n : Nat} {s : DkS}
theorem DkJ.below (h : DkJ B w p q n s) (hb : Below w.heap.size w w') : DkJ B w' p q n s := DkI.below h hb
theorem RfJ.below (h : RfJ B w p q n s) (hb : Below w.heap.size w w') : RfJ B w' p q n s := RfI.below h hb
theorem DkJ.unt (h : DkJ B w p q n s) (hu : UnT rfT w w') : DkJ B w' p q n s := DkI.unt h hu (by decide)
theorem RfJ.unt (h : RfJ B w p q n s) (hu : UnT dkT w w') : RfJ B w' p q n s := RfI.unt h hu (by decide)
theorem dk_write (h : DkJ B w p q n s) (hB : B ≤ w.heap.size) (hr6 : s.R.length + 1 ≤ 1000000) (z : Int) (D : List UInt8) (hD : D.length = 64) :
    Calls Try.prog 12 #[.pointer (some ⟨p, 0, none⟩), .int .i64 z, .agg (rowOf D)] w fun e w' => e = .returned (.int .i64 (wrZ n s z)) ∧ DkJ B w' p q n (wrS n s z D) ∧ Below B w w' ∧ UnT dkT w w' := by
  unfold wrZ wrS
  by_cases hE : hasE n s.off z = 0
  · rw [if_pos hE, if_pos hE]
    obtain ⟨ho, h0, h1⟩ := has_ok2 hE
    obtain ⟨k, rfl⟩ : ∃ k : Nat, z = (k : Int) := ⟨z.toNat, by omega⟩
    have h' : DkI B w p q n s.F s.R s.fu false := by rw [← ho]; exact h
    rw [ho]
    exact dwrite_yes h' hB k (by omega) D hD hr6
  · rw [if_neg hE, if_neg hE]
    refine (dwrite_no h z D hE).mono fun e w' hh => ?_
    obtain ⟨rfl, hb⟩ := hh
    exact ⟨rfl, DkI.below h hb, hb.mono hB, UnT.of_below hb⟩
theorem rf_write (h : RfJ B w p q n s) (hB : B ≤ w.heap.size) (hr6 : s.R.length + 1 ≤ 1000000) (z : Int) (D : List UInt8) (hD : D.length = 64) :
    Calls Try.prog 21 #[.pointer (some ⟨p, 0, none⟩), .int .i64 z, .agg (rowOf D)] w fun e w' => e = .returned (.int .i64 (wrZ n s z)) ∧ RfJ B w' p q n (wrS n s z D) ∧ Below B w w' ∧ UnT rfT w w' := by
  unfold wrZ wrS
  by_cases hE : hasE n s.off z = 0
  · rw [if_pos hE, if_pos hE]
    obtain ⟨ho, h0, h1⟩ := has_ok2 hE
    obtain ⟨k, rfl⟩ : ∃ k : Nat, z = (k : Int) := ⟨z.toNat, by omega⟩
    have h' : RfI B w p q n s.F s.R s.fu false := by rw [← ho]; exact h
    rw [ho]
    exact rwrite_yes h' hB k (by omega) D hD hr6
  · rw [if_neg hE, if_neg hE]
    refine (rwrite_no h z D hE).mono fun e w' hh => ?_
    obtain ⟨rfl, hb⟩ := hh
    exact ⟨rfl, RfI.below h hb, hb.mono hB, UnT.of_below hb⟩
theorem dk_sync (h : DkJ B w p q n s) : Calls Try.prog 14 #[.pointer (some ⟨p, 0, none⟩)] w fun e w' => e = .returned (.int .i64 (syZ s)) ∧ DkJ B w' p q n (syS s) ∧ Below B w w' ∧ UnT dkT w w' := by
  obtain ⟨F, R, fu, off⟩ := s
  cases off with
  | true =>
    have e1 : syS ⟨F, R, fu, true⟩ = ⟨F, R, fu, true⟩ := by simp [syS]
    have e2 : syZ ⟨F, R, fu, true⟩ = 9 := by simp [syZ]
    rw [e1, e2]
    refine (dsync_off h).mono fun e w' hh => ?_
    obtain ⟨rfl, rfl⟩ := hh
    exact ⟨rfl, h, Below.refl _ _, UnT.refl _ _⟩
  | false =>
    by_cases hf : fu = 1
    · subst hf
      have e1 : syS ⟨F, R, 1, false⟩ = ⟨F, R, 0, true⟩ := by simp [syS]
      have e2 : syZ ⟨F, R, 1, false⟩ = 9 := by simp [syZ]
      rw [e1, e2]
      exact dsync_burn h
    · have e1 : syS ⟨F, R, fu, false⟩ = ⟨appl F R, [], fu - 1, false⟩ := by simp [syS, hf]
      have e2 : syZ ⟨F, R, fu, false⟩ = 0 := by simp [syZ, hf]
      rw [e1, e2]
      exact dsync_ok h hf
theorem rf_sync (h : RfJ B w p q n s) (hB : B ≤ w.heap.size) (hm : s.R.length ≤ 1000000) : Calls Try.prog 22 #[.pointer (some ⟨p, 0, none⟩)] w fun e w' => e = .returned (.int .i64 (syZ s)) ∧ RfJ B w' p q n (syS s) ∧ Below B w w' ∧ UnT rfT w w' := by
  obtain ⟨F, R, fu, off⟩ := s
  cases off with
  | true =>
    have e1 : syS ⟨F, R, fu, true⟩ = ⟨F, R, fu, true⟩ := by simp [syS]
    have e2 : syZ ⟨F, R, fu, true⟩ = 9 := by simp [syZ]
    rw [e1, e2]
    refine (rsync_off h).mono fun e w' hh => ?_
    obtain ⟨rfl, rfl⟩ := hh
    exact ⟨rfl, h, Below.refl _ _, UnT.refl _ _⟩
  | false =>
    by_cases hf : fu = 1
    · subst hf
      have e1 : syS ⟨F, R, 1, false⟩ = ⟨F, R, 0, true⟩ := by simp [syS]
      have e2 : syZ ⟨F, R, 1, false⟩ = 9 := by simp [syZ]
      rw [e1, e2]
      exact rsync_burn h
    · have e1 : syS ⟨F, R, fu, false⟩ = ⟨appl F R, [], fu - 1, false⟩ := by simp [syS, hf]
      have e2 : syZ ⟨F, R, fu, false⟩ = 0 := by simp [syZ, hf]
      rw [e1, e2]
      exact rsync_ok h hB hm hf
theorem readD_len (h : DkJ B w p q n s) (z : Int) : (readD n s.F s.R s.off z).length = 64 := by
  obtain ⟨v, h⟩ := h
  unfold readD
  split
  · rename_i hE
    obtain ⟨_, h0, h1⟩ := has_ok2 hE
    exact getD_mem64 h.app64 _ (by rw [appl_len, h.hF]; omega)
  · exact zsec_len
end
theorem info64K : (Try.prog.info? 26).map (fun i => (i.zero, i.size, i.bytes)) = some (some (.agg (rowOf zsec)), 64, 64) := by kernel_rfl
theorem mk64K (n : Nat) (h9 : n ≤ 8192) (w : World) : (Instr.makeSlice 44 (.int .i64 (n : Int)) (.int .i64 (n : Int))).run Try.prog w = .ok (.slice (some ⟨w.heap.size, 0, none⟩) n n) (w.alloc (.cells (flatC rowOf (zsecs n)).toArray 26)) := by
  obtain ⟨i, hi, hz, hsize, hby⟩ := info_parts info64K
  have h := run_make (P := Try.prog) w 44 26 i _ Try.underlying44 hi hz .i64 .i64 (n : Int) (n : Int) (by omega) (by omega) (by rw [hby]; omega) (by omega)
  rw [hsize] at h
  rw [← made_zsecs]
  simpa [Value.cells] using h
theorem rf_new (w : World) (n : Nat) (h1 : 1 ≤ n) (h9 : n ≤ 8192) : RfJ w.heap.size ((w.alloc (.cells (flatC rowOf (zsecs n)).toArray 26)).alloc (.cells #[.slice (some ⟨w.heap.size, 0, none⟩) n n, .slice none 0 0, .int .i64 0, .bool false] 47)) (w.heap.size + 1) w.heap.size n ⟨zsecs n, [], 0, false⟩ := by
  refine ⟨.slice none 0 0, by omega, Nat.le_refl _, h1, h9, by simp [zsecs], fun D hD => ?_, fun _ hx => (by cases hx), Nat.zero_le _, ?_, World.ownsRow_nil _ _ _ _, (Bk.new w _ _).alloc _⟩
  · obtain rfl := List.eq_of_mem_replicate hD
    simp [zsec]
  · have := Bk.new (w.alloc (.cells (flatC rowOf (zsecs n)).toArray 26)) 47 #[.slice (some ⟨w.heap.size, 0, none⟩) n n, .slice none 0 0, .int .i64 0, .bool false]
    simpa using this
theorem RfJ.lower {b0 b1 : Nat} {w : World} {p q n : Nat} {s : DkS} (h : RfJ b0 w p q n s) (hb : b1 ≤ b0) : RfJ b1 w p q n s := by
  obtain ⟨v, h⟩ := h
  exact ⟨v, Nat.le_trans hb h.hp, Nat.le_trans hb h.hq, h.n1, h.n2, h.hF, h.F64, h.hR, h.hfu, h.bp, World.ownsRow.mono h.lo hb, h.bq⟩
/-- The first write since synced is the second; then two, one after the other. -/
structure TwJ (deps : Nat → List Nat) (i2 i4 : Nat) (Jt Jm Jf Al : World → Prop) (D : Nat → Bool) (W : World) : Prop where
  cl : ∀ i, D i = true → ∀ j ∈ deps i, D j = true
  al : Al W
  t : D i2 = false → Jt W
  m : D i2 = true → D i4 = false → Jm W
  f : D i4 = true → Jf W
section
variable {deps : Nat → List Nat} {i2 i4 : Nat} {Jt Jm Jf Al : World → Prop} {D : Nat → Bool} {W W' : World}
theorem TwJ.start (h : Jt W) (ha : Al W) : TwJ deps i2 i4 Jt Jm Jf Al (fun _ => false) W := ⟨fun _ e => (by cases e), ha, fun _ => h, fun e => (by cases e), fun e => (by cases e)⟩
theorem TwJ.same (h : TwJ deps i2 i4 Jt Jm Jf Al D W) (i : Nat) (hi : i2 ≠ i ∧ i4 ≠ i) (hd : ∀ j ∈ deps i, D j = true) : TwJ deps i2 i4 Jt Jm Jf Al (fun j => decide (j = i) || D j) W := by
  refine ⟨cl_or h.cl hd, h.al, ?_, ?_, ?_⟩
  · rw [orf_ne hi.1]; exact h.t
  · rw [orf_ne hi.1, orf_ne hi.2]; exact h.m
  · rw [orf_ne hi.2]; exact h.f
theorem TwJ.turn (h : TwJ deps i2 i4 Jt Jm Jf Al D W) (i : Nat) (hi : i2 ≠ i ∧ i4 ≠ i) (hd : ∀ j ∈ deps i, D j = true) (ka : Al W → Al W') (kt : Jt W → Jt W') (km : Jm W → Jm W') (kf : Jf W → Jf W') : TwJ deps i2 i4 Jt Jm Jf Al (fun j => decide (j = i) || D j) W' := by
  refine ⟨cl_or h.cl hd, ka h.al, ?_, ?_, ?_⟩
  · rw [orf_ne hi.1]; exact fun e => kt (h.t e)
  · rw [orf_ne hi.1, orf_ne hi.2]; exact fun e e2 => km (h.m e e2)
  · rw [orf_ne hi.2]; exact fun e => kf (h.f e)
theorem TwJ.first (h : TwJ deps i2 i4 Jt Jm Jf Al D W) (hL : D i2 = false) (hi : i4 ≠ i2) (h4 : D i4 = false) (hd : ∀ j ∈ deps i2, D j = true) (ha : Al W') (hm : Jm W') : TwJ deps i2 i4 Jt Jm Jf Al (fun j => decide (j = i2) || D j) W' := by
  refine ⟨cl_or h.cl hd, ha, ?_, fun _ _ => hm, ?_⟩
  · rw [orf_eq]; exact fun e => (by cases e)
  · rw [orf_ne hi, h4]; exact fun e => (by cases e)
theorem TwJ.second (h : TwJ deps i2 i4 Jt Jm Jf Al D W) (hi : i2 ≠ i4) (h2 : D i2 = true) (hd : ∀ j ∈ deps i4, D j = true) (ha : Al W') (hf : Jf W') : TwJ deps i2 i4 Jt Jm Jf Al (fun j => decide (j = i4) || D j) W' := by
  refine ⟨cl_or h.cl hd, ha, ?_, ?_, fun _ => hf⟩
  · rw [orf_ne hi, h2]; exact fun e => (by cases e)
  · rw [orf_eq]; exact fun _ e => (by cases e)
end
end Go.Proofs.Ytibnfldddpmafaa
