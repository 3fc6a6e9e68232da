/-
  Merged: Lgw Lgx.
-/
import Derived.Test.YtdlciehboimciaaDE
import Derived.Test.YtdlciehboimciaaLgn
import Derived.Test.YtdlciehboimciaaLM
import Derived.Test.YtdlciehboimciaaDkk
namespace Go.Proofs.Ytdlciehboimciaa
set_option maxRecDepth 100000
open Go.RowKit Go.Shelf
set_option linter.unusedVariables false
set_option linter.unusedSimpArgs false

/-! By value. -/
def wrQ (a : Nat) (L : List UInt8) (ks : List Nat) : List WrV := (List.range ks.length).map fun i => (a + i, padTo 64 (pieceAt L (ks.getD i 0)))
theorem wrQ_nil (a : Nat) (L : List UInt8) : wrQ a L [] = [] := rfl
theorem wrQ_snoc (a : Nat) (L : List UInt8) (ks : List Nat) (k : Nat) : wrQ a L (ks ++ [k]) = wrQ a L ks ++ [(a + ks.length, padTo 64 (pieceAt L k))] := by
  unfold wrQ
  rw [List.length_append, List.length_cons, List.length_nil, List.range_succ, List.map_append]
  congr 1
  · refine List.map_congr_left fun i hi => ?_
    have := List.mem_range.1 hi
    simp only [List.getD, List.getElem?_append_left this]
  · simp [List.getD]
theorem wrQ_range (a : Nat) (L : List UInt8) (k : Nat) : wrQ a L (List.range k) = wrC a L k := by
  unfold wrQ wrC
  rw [List.length_range]
  refine List.map_congr_left fun i hi => ?_
  have := List.mem_range.1 hi
  simp [List.getD, this]
def wrLX (s : DkX) (R : List WrV) : DkX := R.foldl (fun s x => wrX s x.1 x.2) s
theorem wrLX_nil (s : DkX) : wrLX s [] = s := rfl
theorem wrLX_snoc (s : DkX) (R : List WrV) (x : WrV) : wrLX s (R ++ [x]) = wrX (wrLX s R) x.1 x.2 := by simp [wrLX]
theorem wrX_off {s : DkX} (h : s.off = true) (k : Nat) (D : List UInt8) : wrX s k D = s := by simp [wrX, h]
theorem wrLX_off {s : DkX} (h : s.off = true) : ∀ R, wrLX s R = s
  | [] => rfl
  | x :: R => by
    show wrLX (wrX s x.1 x.2) R = s
    rw [wrX_off h]
    exact wrLX_off h R
theorem wrLX_app (s : DkX) (R R' : List WrV) : wrLX s (R ++ R') = wrLX (wrLX s R) R' := by simp [wrLX]
theorem wrX_len (s : DkX) (k : Nat) (D : List UInt8) : (wrX s k D).R.length ≤ s.R.length + 1 := by
  unfold wrX
  split <;> simp
theorem wrLX_len (s : DkX) : ∀ R : List WrV, (wrLX s R).R.length ≤ s.R.length + R.length
  | [] => Nat.le_refl _
  | x :: R => by
    have h1 := wrLX_len (wrX s x.1 x.2) R
    have h2 := wrX_len s x.1 x.2
    show (wrLX (wrX s x.1 x.2) R).R.length ≤ _
    simp only [List.length_cons]
    omega
theorem wrC_split (a : Nat) (L : List UInt8) (j k : Nat) (h : j ≤ k) : ∃ R, wrC a L k = wrC a L j ++ R := by
  refine ⟨(wrC a L k).drop j, ?_⟩
  have e : wrC a L j = (wrC a L k).take j := by
    unfold wrC
    rw [← List.map_take, List.take_range, Nat.min_eq_left h]
  rw [e, List.take_append_drop]
/-- Off on the way is off at the end. -/
theorem wrLX_cut (s : DkX) (a : Nat) (L : List UInt8) (j k : Nat) (h : j ≤ k) (ho : (wrLX s (wrC a L j)).off = true) : wrLX s (wrC a L k) = wrLX s (wrC a L j) := by
  obtain ⟨R, e⟩ := wrC_split a L j k h
  rw [e, wrLX_app, wrLX_off ho]
/-- What fill leaves. -/
def filL (s : DkX) (n a f : Nat) (l : List UInt8) : List UInt8 := ((appl s.F s.R).getD (firstS n a + f / 64) []).take (f % 64) ++ l
def filX (s : DkX) (n a f : Nat) (l : List UInt8) : DkX := syX (wrLX s (wrC (firstS n a + f / 64) (filL s n a f l) (cntP (f % 64 + l.length))))
theorem copy_pad (l : List UInt8) (h : l.length ≤ 64) : ((rowOf zsec).toList.take 0 ++ (rowOf l).toList ++ (rowOf zsec).toList.drop (0 + (rowOf l).toList.length)).toArray = rowOf (padTo 64 l) := by
  rw [row_laid]
  congr 1
  unfold laid padTo zsec
  rw [List.take_zero, List.nil_append, Nat.zero_add, List.drop_replicate]

/-! The state. -/
theorem kf_unt {B : Nat} {T : List TypeId} {W W' : World} (h : UnT T W W') : KeepsFrom B W W' := ⟨h.1, fun k o _ h0 ho => by
  refine (h.2 k (Array.getElem?_eq_some_iff.1 h0).1 fun cs t fz e => ?_).trans h0
  rw [h0] at e
  cases e
  cases ho⟩
theorem unt_far {T : List TypeId} {w W W' : World} (h : UnT T w W) (hs : W.heap.size ≤ W'.heap.size) (he : ∀ k, k < w.heap.size → W'.heap[k]? = W.heap[k]?) : UnT T w W' :=
  ⟨Nat.le_trans h.1 hs, fun k hk ht => (he k hk).trans (h.2 k hk ht)⟩
theorem DkI.turned {B b0 : Nat} {W W' : World} {row : Option Nat} {p q n : Nat} {F : List (List UInt8)} {R : List WrV} {fu : Nat} {off : Bool} (h : DkI b0 W p q n F R fu off) (hg : W.grownBy W' row) (hr : ∀ r, row = some r → B ≤ r ∧ ∃ o : Obj, W.heap[r]? = some o ∧ o.isCells = false) : DkI b0 W' p q n F R fu off := by
  obtain ⟨v, h⟩ := h
  exact ⟨v, h.hp, h.hq, h.n1, h.n2, h.hF, h.F64, h.hR, h.hfu, h.bp.turned hg hr, row_turned h.lo hg hr, h.bq.turned hg hr⟩
/-- While fill writes: the boxes, the log, the disk, the bytes; k pieces are written. -/
structure FlI (b0 : Nat) (w W : World) (g p q n t a0 c0 g0 gr ga Bs Bn base : Nat) (er : Int) (at_ : Nat) (s : DkX) (A : Option Addr) (m cap : Nat) (L : List UInt8) : Prop where
  bg : Bk W g0 28 #[.pointer (some ⟨g, 0, none⟩)]
  br : Bk W gr 25 #[.int .i64 er]
  ba : Bk W ga 3 #[.int .i64 (at_ : Int)]
  bs : Bk W Bs 39 #[.slice A m cap]
  bn : Bk W Bn 3 #[.int .i64 64]
  lg : LgB W g p t a0 c0 false
  dk : DkJ b0 W p q n s
  ow : Own8 W base (.slice A m cap) L
  be : Below b0 w W
  un : UnT dkT w W
section
variable {b0 : Nat} {w W W' : World} {g p q n t a0 c0 g0 gr ga Bs Bn base : Nat} {er : Int} {at_ : Nat} {s : DkX} {A : Option Addr} {m cap : Nat} {L : List UInt8}
theorem FlI.turned {B : Nat} {row : Option Nat} (h : FlI b0 w W g p q n t a0 c0 g0 gr ga Bs Bn base er at_ s A m cap L) (hb0 : b0 ≤ w.heap.size) (hB : w.heap.size ≤ B) (hg : W.grownBy W' row) (hr : ∀ r, row = some r → B ≤ r ∧ ∃ o : Obj, W.heap[r]? = some o ∧ o.isCells = false) : FlI b0 w W' g p q n t a0 c0 g0 gr ga Bs Bn base er at_ s A m cap L :=
  ⟨h.bg.turned hg hr, h.br.turned hg hr, h.ba.turned hg hr, h.bs.turned hg hr, h.bn.turned hg hr, Bk.turned h.lg hg hr, DkI.turned h.dk hg hr, row_turned h.ow hg hr, below_turned h.be (Nat.le_trans hb0 hB) (Nat.le_trans hb0 h.un.1) hg hr, unt_turned h.un hB hg hr⟩
/-- By what a write leaves. -/
theorem FlI.wrote {s' : DkX} (h : FlI b0 w W g p q n t a0 c0 g0 gr ga Bs Bn base er at_ s A m cap L) (hd : DkJ b0 W' p q n s') (hb : Below b0 W W') (hu : UnT dkT W W') : FlI b0 w W' g p q n t a0 c0 g0 gr ga Bs Bn base er at_ s' A m cap L :=
  ⟨h.bg.unt hu (by decide), h.br.unt hu (by decide), h.ba.unt hu (by decide), h.bs.unt hu (by decide), h.bn.unt hu (by decide), Bk.unt h.lg hu (by decide), hd, ownsRow_unt h.ow hu (by decide), h.be.trans hb, h.un.trans hu⟩
theorem FlI.below (h : FlI b0 w W g p q n t a0 c0 g0 gr ga Bs Bn base er at_ s A m cap L) (hb0 : b0 ≤ w.heap.size) (hb : Below W.heap.size W W') : FlI b0 w W' g p q n t a0 c0 g0 gr ga Bs Bn base er at_ s A m cap L :=
  h.wrote (DkI.below h.dk hb) (hb.mono (Nat.le_trans hb0 h.un.1)) (UnT.of_below hb)
/-- The place goes on. -/
theorem FlI.next (h : FlI b0 w W g p q n t a0 c0 g0 gr ga Bs Bn base er at_ s A m cap L) (hb0 : b0 ≤ w.heap.size) (hga : w.heap.size ≤ ga) (hn : ga ≠ Bn) (a' : Nat) : FlI b0 w (W.setCell ⟨ga, 0, none⟩ (.int .i64 (a' : Int))) g p q n t a0 c0 g0 gr ga Bs Bn base er a' s A m cap L := by
  obtain ⟨h1, h2⟩ := Bk.putD (T := [3]) h.ba (Nat.le_trans hb0 hga) (by simp) 0 (.int .i64 (a' : Int))
  have hne : ∀ k, k ≠ ga → (W.setCell ⟨ga, 0, none⟩ (.int .i64 (a' : Int))).heap[k]? = W.heap[k]? := fun k hk => Below.heap_setCell W ⟨ga, 0, none⟩ _ k hk
  exact ⟨h.bg.unt h2 (by decide), h.br.unt h2 (by decide), h.ba.set_ 0 _, h.bs.unt h2 (by decide), (hne Bn (Ne.symm hn)).trans h.bn, Bk.unt h.lg h2 (by decide), DkI.unt h.dk h2 (by decide), ownsRow_unt h.ow h2 (by decide), h.be.trans h1, unt_far h.un h2.1 fun k hk => hne k (by omega)⟩
/-- The result is told. -/
theorem FlI.told (h : FlI b0 w W g p q n t a0 c0 g0 gr ga Bs Bn base er at_ s A m cap L) (hb0 : b0 ≤ w.heap.size) (hgr : w.heap.size ≤ gr) (er' : Int) : FlI b0 w (W.setCell ⟨gr, 0, none⟩ (.int .i64 er')) g p q n t a0 c0 g0 gr ga Bs Bn base er' at_ s A m cap L := by
  obtain ⟨h1, h2⟩ := Bk.putD (T := [25]) h.br (Nat.le_trans hb0 hgr) (by simp) 0 (.int .i64 er')
  have hne : ∀ k, k ≠ gr → (W.setCell ⟨gr, 0, none⟩ (.int .i64 er')).heap[k]? = W.heap[k]? := fun k hk => Below.heap_setCell W ⟨gr, 0, none⟩ _ k hk
  exact ⟨h.bg.unt h2 (by decide), h.br.set_ 0 _, h.ba.unt h2 (by decide), h.bs.unt h2 (by decide), h.bn.unt h2 (by decide), Bk.unt h.lg h2 (by decide), DkI.unt h.dk h2 (by decide), ownsRow_unt h.ow h2 (by decide), h.be.trans h1, unt_far h.un h2.1 fun k hk => hne k (by omega)⟩
/-- A piece is there to be read. -/
theorem FlI.piece {b : Nat} (h : FlI b0 w W g p q n t a0 c0 g0 gr ga Bs Bn base er at_ s (some ⟨b, 0, none⟩) m cap L) (hL : L.length = m) (k : Nat) : Rd W W.heap.size (some ⟨b, k * 64, none⟩) (pieceAt L k) := by
  have h1 : Rd W W.heap.size (some ⟨b, 0, none⟩) L := h.ow.rd.1
  have h2 := (Rd.drop (off := 0) h1 (k * 64)).take 64
  rw [Nat.zero_add] at h2
  exact h2
end
end Go.Proofs.Ytdlciehboimciaa

namespace Go.Proofs.Ytdlciehboimciaa
set_option maxRecDepth 100000
open Go.RowKit Go.Shelf
set_option linter.unusedVariables false
set_option linter.unusedSimpArgs false

attribute [local go_sem] Oper.semAt_some
theorem slice_hiS (g k : Nat) (hk : k ≤ 64) (W : World) :
    (Instr.sliceAt 58 (.pointer (some ⟨g, 0, none⟩)) none (some (.int .i64 (k : Int))) none).run Try.prog W = .ok (.slice (some ⟨g, 0, none⟩) k 64) W := by
  have he : Try.prog.elem 58 = 5 := by kernel_rfl
  have hn : Try.prog.arrayLen 58 = 64 := by kernel_rfl
  have ht : Try.prog.underlying 58 = some (.array (Try.prog.arrayLen 58) (Try.prog.elem 58)) := by rw [he, hn]; exact Try.underlying58
  have hs : ∀ W : World, (sizeOf (Try.prog.elem 58)).run Try.prog W = .ok 1 W := fun W => by
    rw [he]
    obtain ⟨i, hi, hz, hsize, hby⟩ := info_parts info8
    simp [sizeOf, typeInfo, hi, hsize]
  rw [run_sliceAt_array_h W 58 ⟨g, 0, none⟩ ht .i64 k (by omega) (by rw [hn]; omega), hs, hn]
  simp [Result.andThen, slicedAt, Addr.add]
theorem filX_off {s : DkX} {n a f : Nat} {l : List UInt8} (h : s.off = true) : filX s n a f l = s := by
  unfold filX
  rw [wrLX_off h, syX_off h]
def FdR (g p a1 : Nat) (D0 : List UInt8) (er : Int) : Nat → Value → World → Prop
  | 0, v, _ => v = .pointer (some ⟨g, 0, none⟩)
  | 1, v, _ => v = .pointer (some ⟨g, 0, none⟩)
  | 2, v, _ => v = .pointer (some ⟨g, 0, none⟩)
  | 3, v, _ => v = .pointer (some ⟨p, 0, none⟩)
  | 4, v, _ => v = .int .i64 (a1 : Int)
  | 5, v, _ => v = .tuple #[.agg (rowOf D0), .int .i64 er]
  | 6, v, _ => v = .tuple #[.agg (rowOf D0), .int .i64 er]
  | 7, v, _ => v = .agg (rowOf D0)
  | 8, v, _ => v = .int .i64 er
  | 11, v, _ => v = .int .i64 er
  | _, _, _ => True
theorem FdR.keep {g p a1 : Nat} {D0 : List UInt8} {er : Int} {j : Nat} {v : Value} {W W' : World} (hh : FdR g p a1 D0 er j v W) : FdR g p a1 D0 er j v W' := by
  unfold FdR at hh ⊢
  split at hh <;> first
    | exact hh
    | trivial
structure FdJ (w3 : World) (D0 : List UInt8) (D : Nat → Bool) (a : Act) (W : World) : Prop where
  cl : D 10 = true → D 9 = true
  be : Below w3.heap.size w3 W
  al : D 9 = true → ∃ gw, a.tmps.getD 10 undef = .pointer (some ⟨gw, 0, none⟩) ∧ w3.heap.size ≤ gw ∧ Bk W gw 58 (rowOf (if D 10 = true then D0 else zsec))
section
variable {w3 : World} {D0 : List UInt8} {D : Nat → Bool} {a : Act} {W W' : World}
theorem FdJ.same (h : FdJ w3 D0 D a W) (i s : Nat) (v : Value) (hi : 9 ≠ i ∧ 10 ≠ i) (hs : 10 ≠ s) (hb : Below W.heap.size W W') : FdJ w3 D0 (fun j => decide (j = i) || D j) (a.put (some s) v) W' := by
  refine ⟨?_, h.be.trans (hb.mono h.be.size), ?_⟩
  · rw [orf_ne hi.1, orf_ne hi.2]; exact h.cl
  · rw [orf_ne hi.1, orf_ne hi.2, put_otherD hs]
    intro e
    obtain ⟨gw, h1, h2, h3⟩ := h.al e
    exact ⟨gw, h1, h2, h3.below hb h3.lt⟩
end
def dpsF : Nat → List Nat
  | 1 => [0]
  | 2 => [1]
  | 3 => [2]
  | 6 => [3, 4, 5]
  | 7 => [6]
  | _ => []
def FeR (g p az : Nat) (PD : List UInt8) (er : Int) : Nat → Value → World → Prop
  | 0, v, _ => v = .pointer (some ⟨g, 0, none⟩)
  | 1, v, _ => v = .pointer (some ⟨g, 0, none⟩)
  | 2, v, _ => v = .pointer (some ⟨g, 0, none⟩)
  | 3, v, _ => v = .pointer (some ⟨p, 0, none⟩)
  | 4, v, _ => v = .int .i64 (az : Int)
  | 5, v, _ => v = .agg (rowOf PD)
  | 6, v, _ => v = .int .i64 er
  | 7, v, _ => v = .int .i64 er
  | _, _, _ => True
theorem FeR.keep {g p az : Nat} {PD : List UInt8} {er : Int} {j : Nat} {v : Value} {W W' : World} (hh : FeR g p az PD er j v W) : FeR g p az PD er j v W' := by
  unfold FeR at hh ⊢
  split at hh <;> first
    | exact hh
    | trivial
section
variable {b0 : Nat} {w : World} {g p q n t a0 c0 : Nat} {s : DkX}
set_option maxRecDepth 100000 in
set_option maxHeartbeats 8000000 in
theorem fill_any (h : LgB w g p t a0 c0 false) (hd : DkJ b0 w p q n s) (hb0 : b0 ≤ w.heap.size) (hgb : b0 ≤ g) (h4 : 4 ≤ n) (h9 : n ≤ 8192) (a f m : Nat) (B : Option Addr) (cb : Nat) (ha : a ≤ 1) (hf : f < roomN n) (hfm : f + m ≤ roomN n) (l : List UInt8) (hl : l.length = m) (hr : Rd w w.heap.size B l) (hR : s.R.length ≤ 900000) :
    Calls Try.prog 56 #[.pointer (some ⟨g, 0, none⟩), .int .i64 (a : Int), .int .i64 (f : Int), .slice B m cb] w (FilP b0 w g p q n t a0 c0 (filX s n a f l)) := by
  have hrb : roomN n = secsA n * 64 := by unfold roomN; rfl
  have hsb : secsA n ≤ 4096 := by unfold secsA; omega
  have hs2 : 2 + 2 * secsA n ≤ n := by unfold secsA; omega
  obtain ⟨fs, hfs⟩ : ∃ x, firstS n a = x := ⟨_, rfl⟩
  have hfsv : fs = 2 + a * secsA n := by rw [← hfs]; unfold firstS; rfl
  obtain ⟨fq, hfq⟩ : ∃ x, f / 64 = x := ⟨_, rfl⟩
  obtain ⟨fr, hfr⟩ : ∃ x, f % 64 = x := ⟨_, rfl⟩
  obtain ⟨a1, ha1⟩ : ∃ x, fs + fq = x := ⟨_, rfl⟩
  have hfr64 : fr < 64 := by omega
  have hnp : a1 + cntP (fr + m) ≤ n := by
    unfold cntP
    have : a * secsA n ≤ 1 * secsA n := Nat.mul_le_mul_right _ ha
    omega
  have ha1n : a1 < n := by
    have : a * secsA n ≤ 1 * secsA n := Nat.mul_le_mul_right _ ha
    omega
  obtain ⟨g0, hg0⟩ : ∃ g, w.heap.size = g := ⟨_, rfl⟩
  obtain ⟨w1, hw1⟩ : ∃ W, w.alloc (.cells #[.pointer (some ⟨g, 0, none⟩)] 28) = W := ⟨_, rfl⟩
  obtain ⟨w2, hw2⟩ : ∃ W, w1.alloc (.cells #[.int .i64 0] 25) = W := ⟨_, rfl⟩
  obtain ⟨w3, hw3⟩ : ∃ W, w2.alloc (.cells #[.int .i64 (a1 : Int)] 3) = W := ⟨_, rfl⟩
  have b1 : Below w.heap.size w w1 := by rw [← hw1]; exact (Below.refl _ _).alloc (Nat.le_refl _) _
  have b2 : Below w1.heap.size w1 w2 := by rw [← hw2]; exact (Below.refl _ _).alloc (Nat.le_refl _) _
  have b3 : Below w2.heap.size w2 w3 := by rw [← hw3]; exact (Below.refl _ _).alloc (Nat.le_refl _) _
  have s1 : w1.heap.size = g0 + 1 := by rw [← hw1, ← hg0]; simp
  have s2 : w2.heap.size = g0 + 2 := by rw [← hw2]; simp [s1]
  have s3 : w3.heap.size = g0 + 3 := by rw [← hw3]; simp [s2]
  have K1 : Bk w1 g0 28 #[.pointer (some ⟨g, 0, none⟩)] := by rw [← hw1, ← hg0]; exact Bk.new w _ _
  have K2 : Bk w2 (g0 + 1) 25 #[.int .i64 0] := by rw [← hw2, ← s1]; exact Bk.new w1 _ _
  have K3 : Bk w3 (g0 + 2) 3 #[.int .i64 (a1 : Int)] := by rw [← hw3, ← s2]; exact Bk.new w2 _ _
  have K1' : Bk w2 g0 28 #[.pointer (some ⟨g, 0, none⟩)] := K1.below b2 (by omega)
  have L2 : LgB w2 g p t a0 c0 false := (h.below b1).below b2
  have D2 := (DkI.below hd b1).below b2
  have cs := dsize_yes D2
  have cf := firstSec_any n h4 h9 w2 a ha
  rw [hfs] at cf
  have kc1 := K1'.cell 0
  simp only [List.getElem?_toArray, List.getElem?_cons_zero] at kc1
  have kl := L2.cells.1
  have hq1 : IntKind.i64.wrap ((f : Int).tdiv 64) = (fq : Int) := by
    have : ((f : Int).tdiv 64) = ((f / 64 : Nat) : Int) := by rw [Int.tdiv_eq_ediv_of_nonneg (by omega)]; omega
    rw [this, IntWalk.i64_in _ (by omega)]
    omega
  have hq2 : IntKind.i64.wrap ((fs : Int) + (fq : Int)) = (a1 : Int) := by rw [IntWalk.i64_in _ (by omega)]; omega
  have CLEARED := trivial
  have HFS := hidg_ hfs
  have HFQ := hidg_ hfq
  have HFR := hidg_ hfr
  have HA1 := hidg_ ha1
  have HNP := hidg_ hnp
  have HA1N := hidg_ ha1n
  have HF64 := hidg_ hfr64
  have HB0 := hidg_ hb0
  have HGB := hidg_ hgb
  have H4 := hidg_ h4
  have HR := hidg_ hR
  have HL := hidg_ hl
  have RD0 := hidg_ hr
  have H := hidg_ h
  have HDJ := hidg_ hd
  have hm6 : m ≤ 300000 := by omega
  have HM6 := hidg_ hm6
  have HN9 := hidg_ h9
  have X3 := hidg_ (show Below w.heap.size w w3 from (b1.trans (b2.mono b1.size)).trans (b3.mono (b1.trans (b2.mono b1.size)).size))
  have S3 := hidg_ s3
  have HG0 := hidg_ hg0
  have K33 := hidg_ K3
  have K23 := hidg_ (K2.below b3 (by omega))
  have K13 := hidg_ (K1'.below b3 (by omega))
  have L3 := hidg_ (L2.below b3)
  have D3 := hidg_ (D2.below b3)
  have hq3 : (f : Int).tmod 64 = (fr : Int) := by rw [Int.tmod_eq_emod_of_nonneg (by omega)]; omega
  have hq4 : (f : Int) / 64 = (fq : Int) := by omega
  have hq5 : (fs : Int) + (fq : Int) = (a1 : Int) := by omega
  have hfq6 : fq ≤ 100000 := by omega
  have hfs6 : fs ≤ 100000 := by omega
  have hf6 : f ≤ 1000000 := by omega
  have hfr65 : (fr : Int) ≤ 64 := by omega
  obtain ⟨er, her⟩ : ∃ x, hasE n s.off (a1 : Int) = x := ⟨_, rfl⟩
  obtain ⟨D0, hD0⟩ : ∃ x, readD n s.F s.R s.off (a1 : Int) = x := ⟨_, rfl⟩
  have HER := hidg_ her
  have HD0 := hidg_ hD0
  have D064 := hidg_ (show D0.length = 64 by rw [← hD0]; unfold readD; split; exact (by obtain ⟨v, hv⟩ := hd; exact (hv.sec a1 ha1n).1); exact zsec_len)
  clear hfs hfq hfr ha1 hnp ha1n hfsv hb0 hgb h4 hR hl hr h hd hm6 b1 b2 b3 s3 K1 K2 K3 K1' L2 D2 her hD0 hrb hsb hs2 hfr64 hf hfm h9 ha
  refine (callsIn_wide (n := 6)).1 ?_
  refine callsIn_of_wp_marks Try.func56 rfl trivial ?_ rfl
  simp only [Try.ntmps56, List.size_toArray, List.length_cons, List.length_nil, Nat.reduceAdd, Nat.reduceSub, Array.replicate_succ, Array.replicate_zero, List.push_toArray, List.append_toArray, List.nil_append, List.cons_append]
  refine wpIn_wide.2 ?_
  go_upto_region 2 with (first
    | (go_at_call 29; ((with_reducible refine cs.mono ?_); clear cs; rintro e w' ⟨rfl, rfl⟩))
    | (go_at_call 44; ((with_reducible refine cf.mono ?_); clear cf; rintro e w' ⟨rfl, rfl⟩)))
  rename_i K9 hK9
  clear hw3 hw2 hw1 hq1 hq2 hq4 hq5 kc1 kl s1 s2 hg0
  refine region_byJF [26, 27, 28, 29, 30, 31, 25, 32, 33, 10, 11] (fun _ => True) (fun _ _ => True) (FdR g p a1 D0 er) (fun D a9 W => FdJ w3 D0 D a9 W) (by kernel_rfl) (by kernel_rfl) (by kernel_rfl) (by kernel_rfl) (fun j v w w' hT hr => ?_) (fun j v w hlt hj _ => ?_) trivial ?_ ⟨fun e => (by cases e), (Below.refl _ _).drew, fun e => (by cases e)⟩ ?_
  · exact FdR.keep hr
  · rcases j with _ | _ | _ | _ | _ | _ | _ | _ | _ | _ | _ | _ | j
    all_goals first
      | (exfalso; simp [dstOf] at hj; done)
      | trivial
  · refine ⟨fun D a9 W hC hd hsz hf hv hJ hL hW K hK => ?_, fun D a9 W hC hd hsz hf hv hJ hL hW K hK => ?_, fun D a9 W hC hd hsz hf hv hJ hL hW K hK => ?_, fun D a9 W hC hd hsz hf hv hJ hL hW K hK => ?_, fun D a9 W hC hd hsz hf hv hJ hL hW K hK => ?_, fun D a9 W hC hd hsz hf hv hJ hL hW K hK => ?_, fun D a9 W hC hd hsz hf hv hJ hL hW K hK => ?_, fun D a9 W hC hd hsz hf hv hJ hL hW K hK => ?_, fun D a9 W hC hd hsz hf hv hJ hL hW K hK => ?_, fun D a9 W hC hd hsz hf hv hJ hL hW K hK => ?_, fun D a9 W hC hd hsz hf hv hJ hL hW K hK => ?_, fun D a9 W hC hd hsz hf hv hJ hL hW K hK => ?_, trivial⟩
    · clear hsz
      have e1 := slot_of (a := a9) (s := 4) (v := .pointer (some ⟨g0, 0, none⟩)) (hf 4 (by kernel_rfl))
      have cc := (K13.out.below hJ.be K13.out.lt).cell 0
      simp only [List.getElem?_toArray, List.getElem?_cons_zero] at cc
      refine step_run (wanted_none rfl) (v := .pointer (some ⟨g, 0, none⟩)) (w' := W) ?_ (hK _ _ trivial trivial rfl (hJ.same 0 26 _ (by decide) (by decide) (Below.refl _ _)))
      go_simp
    · clear hsz
      have e1 := slot_of (a := a9) (s := 26) (v := .pointer (some ⟨g, 0, none⟩)) (hv 0 (by kernel_rfl))
      refine step_run (wanted_none rfl) (v := .pointer (some ⟨g, 0, none⟩)) (w' := W) ?_ (hK _ _ trivial trivial rfl (hJ.same 1 27 _ (by decide) (by decide) (Below.refl _ _)))
      go_simp
    · clear hsz
      have e1 := slot_of (a := a9) (s := 27) (v := .pointer (some ⟨g, 0, none⟩)) (hv 1 (by kernel_rfl))
      refine step_run (wanted_none rfl) (v := .pointer (some ⟨g, 0, none⟩)) (w' := W) ?_ (hK _ _ trivial trivial rfl (hJ.same 2 28 _ (by decide) (by decide) (Below.refl _ _)))
      go_simp
    · clear hsz
      have e1 := slot_of (a := a9) (s := 28) (v := .pointer (some ⟨g, 0, none⟩)) (hv 2 (by kernel_rfl))
      have cc := (L3.out.at_ (hJ.be.block g (Bk.lt L3.out))).cells.1
      refine step_run (wanted_none rfl) (v := .pointer (some ⟨p, 0, none⟩)) (w' := W) ?_ (hK _ _ trivial trivial rfl (hJ.same 3 29 _ (by decide) (by decide) (Below.refl _ _)))
      go_simp
    · clear hsz
      have e1 := slot_of (a := a9) (s := 9) (v := .pointer (some ⟨g0 + 2, 0, none⟩)) (hf 9 (by kernel_rfl))
      have cc := (K33.out.below hJ.be K33.out.lt).cell 0
      simp only [List.getElem?_toArray, List.getElem?_cons_zero] at cc
      refine step_run (wanted_none rfl) (v := .int .i64 (a1 : Int)) (w' := W) ?_ (hK _ _ trivial trivial rfl (hJ.same 4 30 _ (by decide) (by decide) (Below.refl _ _)))
      go_simp
    · clear hsz
      have e1 := slot_of (a := a9) (s := 29) (v := .pointer (some ⟨p, 0, none⟩)) (hv 3 (by kernel_rfl))
      have e2 := slot_of (a := a9) (s := 30) (v := .int .i64 (a1 : Int)) (hv 4 (by kernel_rfl))
      have cr := dread_any (D3.out.below hJ.be) (a1 : Int)
      rw [HER.out, HD0.out] at cr
      refine step_callx 27 #[.pointer (some ⟨p, 0, none⟩), .int .i64 (a1 : Int)] (wanted_none rfl) (w' := W) ?_ (cr.mono fun e W2 hh => ?_)
      · go_simp
      · obtain ⟨rfl, hB⟩ := hh
        exact ⟨_, rfl, hK _ _ trivial trivial rfl (hJ.same 5 31 _ (by decide) (by decide) hB)⟩
    · clear hsz
      have e1 := slot_of (a := a9) (s := 31) (v := .tuple #[.agg (rowOf D0), .int .i64 er]) (hv 5 (by kernel_rfl))
      refine step_run (wanted_none rfl) (v := .tuple #[.agg (rowOf D0), .int .i64 er]) (w' := W) ?_ (hK _ _ trivial trivial rfl (hJ.same 6 25 _ (by decide) (by decide) (Below.refl _ _)))
      go_simp
    · clear hsz
      have e1 := slot_of (a := a9) (s := 25) (v := .tuple #[.agg (rowOf D0), .int .i64 er]) (hv 6 (by kernel_rfl))
      refine step_run (wanted_none rfl) (v := .agg (rowOf D0)) (w' := W) ?_ (hK _ _ trivial trivial rfl (hJ.same 7 32 _ (by decide) (by decide) (Below.refl _ _)))
      go_simp
    · clear hsz
      have e1 := slot_of (a := a9) (s := 25) (v := .tuple #[.agg (rowOf D0), .int .i64 er]) (hv 6 (by kernel_rfl))
      refine step_run (wanted_none rfl) (v := .int .i64 er) (w' := W) ?_ (hK _ _ trivial trivial rfl (hJ.same 8 33 _ (by decide) (by decide) (Below.refl _ _)))
      go_simp
    · have hz := zeroSec W
      refine step_run (wanted_none rfl) (v := .pointer (some ⟨W.heap.size, 0, none⟩)) (w' := W.alloc (.cells (rowOf zsec) 58)) ?_ (hK _ _ trivial trivial trivial ?_)
      · go_simp
      · have h10 : D 10 = false := by cases e : D 10 with | false => rfl | true => (rw [hJ.cl e] at hL; cases hL)
        refine ⟨fun _ => by simp, hJ.be.trans (((Below.refl _ _).alloc (Nat.le_refl _) _).mono hJ.be.size), fun _ => ⟨W.heap.size, put_selfD (by rw [hsz]; simp), hJ.be.size, ?_⟩⟩
        rw [orf_ne (by decide), h10, if_neg (by decide)]
        exact Bk.new W _ _
    · clear hsz
      obtain ⟨gw, hgw, hge, hbk⟩ := hJ.al (hW 9 (by kernel_rfl))
      rw [hL, if_neg (by decide)] at hbk
      refine step_put_row rfl 58 (.tmp 10) (.tmp 32) rfl gw (rowOf D0) (eval_of hgw) (eval_of (hv 7 (by kernel_rfl))) 58 (rowOf zsec) hbk (iSec D0 D064.out) (by rw [rowOf_size, rowOf_size, D064.out, zsec_len]) (bytes_one _) ?_
      intro W2 k2 gr2 sz2
      refine hK undef _ trivial trivial trivial ⟨fun _ => by simp [hW 9 (by kernel_rfl)], hJ.be.grown gr2 hJ.be.size (fun k e => by injection e with e; omega), fun _ => ⟨gw, hgw, hge, ?_⟩⟩
      rw [orf_eq, if_pos rfl]
      exact k2
    · clear hsz
      have e1 := slot_of (a := a9) (s := 33) (v := .int .i64 er) (hv 8 (by kernel_rfl))
      refine step_run (wanted_none rfl) (v := .int .i64 er) (w' := W) ?_ (hK _ _ trivial trivial rfl (hJ.same 11 11 _ (by decide) (by decide) (Below.refl _ _)))
      go_simp
  · intro f5 w5 hC5 hv5 D5 hD5 hJ5
    obtain ⟨aE, hJ, hfr⟩ := hJ5
    obtain ⟨gw, hgw, hge, hbk⟩ := hJ.al (hD5 9 (by decide))
    rw [hD5 10 (by decide), if_pos rfl] at hbk
    rw [hfr] at hgw
    have e32 : f5 32 = .agg (rowOf D0) := hv5 7 (by decide)
    have e11 : f5 11 = .int .i64 er := hv5 11 (by decide)
    simp only [framed, List.foldl_cons, List.foldl_nil, List.setIfInBounds_toArray, List.set_cons_succ, List.set_cons_zero]
    rw [hgw, e11]
    have B5 := hidg_ hJ.be
    have KW := hidg_ hbk
    have HGE := hidg_ hge
    clear hv5 hC5 hJ hfr hD5 hgw hbk hge e32 e11
    refine hK9 _ _ ?_
    have X5 := hidg_ (X3.out.trans (B5.out.mono (by have := X3.out.size; omega)))
    have K25 := hidg_ (K23.out.below B5.out K23.out.lt)
    have K15 := hidg_ (K13.out.below B5.out K13.out.lt)
    have K35 := hidg_ (K33.out.below B5.out K33.out.lt)
    have L5 := hidg_ (L3.out.at_ (B5.out.block g (Bk.lt L3.out)))
    have D5 := hidg_ (D3.out.below B5.out)
    clear K33 K23 K13 L3 D3
    cases ho : s.off with
    | true =>
      have e9 : er = 9 := by rw [← HER.out, ho]; rfl
      subst e9
      have cc9 := K25.out.cell 0
      simp only [List.getElem?_toArray, List.getElem?_cons_zero] at cc9
      have f9 := K25.out.frozen 0
      have PD := hidg_ (Bk.putD (b0 := b0) (T := [25]) K25.out (by have := HB0.out; have := HG0.out; omega) (by simp) 0 (.int .i64 9))
      have KD := hidg_ (K25.out.set_ 0 (.int .i64 9))
      have FX := hidg_ (filX_off (n := n) (a := a) (f := f) (l := l) ho)
      have HO := hidg_ ho
      clear ho
      go_wp2
      have hb := HB0.out
      have hg := HG0.out
      refine ⟨.int .i64 9, results_cellK Try.results56 _ _ (g0 + 1) rfl (by have cc := KD.out.cell 0; simp only [List.getElem?_toArray, List.setIfInBounds_toArray, List.set_cons_zero, List.getElem?_cons_zero] at cc; go_simp), by rw [FX.out, erX, if_pos HO.out], ?_, Bk.unt L5.out PD.out.2 (by decide), (X5.out.mono hb).trans PD.out.1, unt_far (UnT.of_below X5.out) PD.out.2.1 fun k hk => Below.heap_setCell w5 ⟨g0 + 1, 0, none⟩ _ k (by rw [hg] at hk; show k ≠ g0 + 1; omega)⟩
      rw [FX.out]
      exact DkI.unt D5.out PD.out.2 (by decide)
    | false =>
      have e9 : er = 0 := by rw [← HER.out, ho]; unfold hasE; rw [if_neg (by decide), if_neg (by have := HA1N.out; omega)]
      subst e9
      have HDV := hidg_ (show D0 = (appl s.F s.R).getD a1 [] by rw [← HD0.out, ho]; unfold readD; rw [ho] at HER; rw [if_pos HER.out]; rfl)
      have HO := hidg_ ho
      clear ho HD0
      have sh := fun W => slice_hiS gw fr (by omega) W
      obtain ⟨g5, hg5⟩ : ∃ x, w5.heap.size = x := ⟨_, rfl⟩
      obtain ⟨w6, hw6⟩ : ∃ W, w5.alloc (.cells #[.slice (some ⟨gw, 0, none⟩) fr 64, .slice B m cb] 39) = W := ⟨_, rfl⟩
      have b6 : Below w5.heap.size w5 w6 := by rw [← hw6]; exact (Below.refl _ _).alloc (Nat.le_refl _) _
      have s6 : w6.heap.size = g5 + 1 := by rw [← hw6, ← hg5]; simp
      have k6 : Bk w6 g5 39 #[.slice (some ⟨gw, 0, none⟩) fr 64, .slice B m cb] := by rw [← hw6, ← hg5]; exact Bk.new w5 _ _
      have kw6 : Bk w6 gw 58 (rowOf D0) := KW.out.below b6 KW.out.lt
      obtain ⟨M, hM⟩ : ∃ x, fr + m = x := ⟨_, rfl⟩
      obtain ⟨LL, hLL⟩ : ∃ x, D0.take fr ++ l = x := ⟨_, rfl⟩
      have hLM : LL.length = M := by rw [← hLL, List.length_append, List.length_take, D064.out, HL.out]; omega
      have cc := concat_any g5 2 2 M [(some ⟨gw, 0, none⟩, 64, D0.take fr), (B, cb, l)] w6 rfl (by rw [← hLM, ← hLL]; simp [flat])
        ⟨by omega, fun i hi => by
          have h2 : i < 2 := hi
          have hcell := k6.cell i
          rcases i with _ | _ | i
          · refine ⟨hcell.trans (by simp [D064.out]; omega), ?_⟩
            refine Rd.take ?_ fr
            intro _
            exact ⟨gw, 0, rfl, kw6.lt, fun j hj => by rw [Nat.zero_add, kw6.cell]; simp [rowOf, hj, List.getD]⟩
          · exact ⟨hcell.trans (by simp [HL.out]), ((RD0.out.below X5.out).more X5.out.size |>.below b6).more b6.size⟩
          · omega⟩ (by omega) (by have := HM6.out; omega)
      have hfl : flat [(some ⟨gw, 0, none⟩, 64, D0.take fr), (B, cb, l)] = LL := by rw [← hLL]; simp [flat]
      rw [hfl] at cc
      have B6 := hidg_ b6
      have HM := hidg_ hM
      have HLL := hidg_ hLL
      have HLM := hidg_ hLM
      have S6 := hidg_ s6
      clear b6 k6 kw6 hM hLL hLM hfl s6
      go_wp2_with (first
        | (go_at_call 73; ((with_reducible refine cc.mono ?_); clear cc; rintro e w7 ⟨A7, c7, rfl, hO7, hB7⟩; have O7 := hidg_ hO7; have B7 := hidg_ hB7; clear hO7 hB7))
        | (go_at_call 76; have cp := callsIn_wide.1 (chunk_in Fence.wide 6 trivial rfl A7 M c7 w7); ((with_reducible refine cp.mono ?_); clear cp; rintro e w8 ⟨rfl, rfl⟩)))
      obtain ⟨bs, hbs⟩ : ∃ x, w7.heap.size = x := ⟨_, rfl⟩
      rw [hbs]
      obtain ⟨wL, hwL⟩ : ∃ W, (w7.alloc (.cells #[.slice A7 M c7] 39)).alloc (.cells #[.int .i64 64] 3) = W := ⟨_, rfl⟩
      have bL : Below w7.heap.size w7 wL := by rw [← hwL]; exact ((Below.refl _ _).alloc (Nat.le_refl _) _).alloc (by simp) _
      have sL : wL.heap.size = bs + 2 := by rw [← hwL, ← hbs]; simp
      have kS : Bk wL bs 39 #[.slice A7 M c7] := by
        rw [← hwL, ← hbs]
        exact (Bk.new w7 _ _).alloc _
      have kN : Bk wL (bs + 1) 3 #[.int .i64 64] := by
        rw [← hwL, ← hbs]
        have := Bk.new (w7.alloc (.cells #[.slice A7 M c7] 39)) 3 #[.int .i64 64]
        simpa using this
      rw [hwL]
      clear hwL
      have B57 : Below w5.heap.size w5 w7 := B6.out.trans (B7.out.mono B6.out.size)
      have B5L : Below w5.heap.size w5 wL := B57.trans (bL.mono B57.size)
      have hbw : w.heap.size ≤ w5.heap.size := X5.out.size
      have XL : Below w.heap.size w wL := X5.out.trans (B5L.mono hbw)
      have FL := hidg_ (show FlI b0 w wL g p q n t a0 c0 g0 (g0 + 1) (g0 + 2) bs (bs + 1) w6.heap.size 0 a1 s A7 M c7 LL from
        ⟨K15.out.below B5L K15.out.lt, K25.out.below B5L K25.out.lt, K35.out.below B5L K35.out.lt, kS, kN, L5.out.at_ (B5L.block g (Bk.lt L5.out)), DkI.below D5.out B5L, O7.out.below bL (Nat.le_refl _), XL.mono HB0.out, UnT.of_below XL⟩)
      obtain ⟨b, hA7⟩ : ∃ b, 0 < M → A7 = some ⟨b, 0, none⟩ := by
        rcases O7.out.2 with ⟨hv, h0⟩ | ⟨gg, cap, cur, hv, _⟩
        · exact ⟨0, fun h => by have := HLM.out; omega⟩
        · injection hv with e1
          exact ⟨gg, fun _ => e1⟩
      have hcap := O7.out.cap
      have hMm := HM.out
      have hm3 := HM6.out
      have hsL5 : g0 + 3 ≤ bs := by have h1 := B57.size; have h2 := B5.out.size; have h3 := S3.out; omega
      have hgw := HG0.out
      have kcS := kS.cell 0
      have kcN := kN.cell 0
      simp only [List.getElem?_toArray, List.getElem?_cons_zero] at kcS kcN
      have hSeq := chunk_stops Fence.wide 5 trivial rfl (by omega) bs (bs + 1) b M c7 A7 hA7 (by omega) hcap.1 hcap.2 wL (by omega) (by omega) kcS kcN
      have HA7 := hidg_ hA7
      have HSL := hidg_ sL
      have HBS := hidg_ hsL5
      have HBW := hidg_ (show b0 ≤ g0 + 1 by have := HB0.out; omega)
      clear kS kN bL B57 B5L hbw XL hcap hMm hm3 hsL5 kcS kcN hA7 hbs K15 K25 K35 KW HGE O7 B7 B6 S6 D5 L5 sh
      refine (wpIn_wide (n := 6)).1 ?_
      refine wpIn_rangeFunc_ownH (F := Fence.wide) (n := 6) rfl (by omega) (gf := 85) (lb := #[.pointer (some ⟨bs, 0, none⟩), .pointer (some ⟨bs + 1, 0, none⟩)]) rfl trivial (enters_of Try.func85 (by kernel_rfl) rfl)
        hSeq (fun h k => KpC.trans h k) (fun W l o o' hl hh _ _ => ⟨by simp, World.putObj_heap_other (by omega), World.putObj_heap_other (by omega)⟩) (Below.refl _ _) (fun _ => rfl)
        (fun (pre : List (PcV M)) W => FlI b0 w W g p q n t a0 c0 g0 (g0 + 1) (g0 + 2) bs (bs + 1) w6.heap.size 0 (a1 + pre.length) (wrLX s (wrQ a1 LL (pre.map (·.1)))) A7 M c7 LL ∧ wL.heap.size ≤ W.heap.size)
        (fun c (pre : List (PcV M)) W => c = .ret ∧ (∃ z, FlI b0 w W g p q n t a0 c0 g0 (g0 + 1) (g0 + 2) bs (bs + 1) w6.heap.size 9 z (wrLX s (wrQ a1 LL (pre.map (·.1)))) A7 M c7 LL) ∧ (wrLX s (wrQ a1 LL (pre.map (·.1)))).off = true ∧ wL.heap.size ≤ W.heap.size)
        (fun s2 X Y row hs hg hr => ⟨hs.1.turned HB0.out (by have := FL.out.un.1; omega) hg hr, Nat.le_trans hs.2 hg.size⟩)
        (fun c s2 X Y row hs hg hr => by obtain ⟨h1, ⟨z, h2⟩, h3, h4⟩ := hs; exact ⟨h1, ⟨z, h2.turned HB0.out (by have := FL.out.un.1; omega) hg hr⟩, h3, Nat.le_trans h4 hg.size⟩)
        ⟨FL.out, Nat.le_refl _⟩
        (fun (x : PcV M) a' W => a' = { tmps := #[.pointer (some ⟨g, 0, none⟩), .int .i64 (a : Int), .int .i64 (f : Int), .slice B m cb, .pointer (some ⟨g0, 0, none⟩), undef, undef, undef, .pointer (some ⟨g0 + 1, 0, none⟩), .pointer (some ⟨g0 + 2, 0, none⟩), .pointer (some ⟨gw, 0, none⟩), .int .i64 0, .slice (some ⟨b, x.1 * 64, none⟩) (min 64 (M - x.1 * 64)) (min 64 (M - x.1 * 64)), undef, undef, .pointer (some ⟨g, 0, none⟩), .pointer (some ⟨g, 0, none⟩), .pointer (some ⟨g, 0, none⟩), .pointer (some ⟨p, 0, none⟩), .int .i64 (n : Int), .int .i64 (a : Int), .int .i64 (fs : Int), .int .i64 (f : Int), .int .i64 (fq : Int), .int .i64 (a1 : Int), f5 25, f5 26, f5 27, f5 28, f5 29, f5 30, f5 31, f5 32, f5 33, .int .i64 0, .bool false, undef, .int .i64 (f : Int), .int .i64 (fr : Int), .slice (some ⟨gw, 0, none⟩) fr 64, .slice B m cb, .slice (some ⟨g5, 0, none⟩) 2 2, .slice A7 M c7, .func (.func 85) #[] #[.pointer (some ⟨bs, 0, none⟩), .pointer (some ⟨bs + 1, 0, none⟩)], .slice (some ⟨b, x.1 * 64, none⟩) (min 64 (M - x.1 * 64)) (min 64 (M - x.1 * 64)), undef, undef, undef, undef, undef, undef, undef, undef, undef, undef, undef, undef, undef, undef, undef, undef, undef, undef, undef, undef], defers := [] })
        (fun x a' _ X Y row hs hg hr => hs)
        ?assign ?body ?done ?stop
      case assign =>
        rintro l1 pre x W K ⟨hI, hlt2⟩ hK
        gi_wp2
        exact hK _ _ (KeepsFrom.refl _ _) (KpC.refl _ _ _) ⟨hI, hlt2⟩ rfl
      case body =>
        rintro l1 pre x a' W hl ⟨r, hr⟩ ⟨hI, hlt2⟩ rfl hlt
        refine wpIn_block ?_
        obtain ⟨k, hk⟩ := x
        have hb := HA7.out (by omega)
        subst hb
        obtain ⟨e, he⟩ : ∃ x, min 64 (M - k * 64) = x := ⟨_, rfl⟩
        obtain ⟨i0, hi0⟩ : ∃ x, k * 64 = x := ⟨_, rfl⟩
        obtain ⟨PC, hPC⟩ : ∃ x, pieceAt LL k = x := ⟨_, rfl⟩
        obtain ⟨az, haz⟩ : ∃ x, a1 + pre.length = x := ⟨_, rfl⟩
        obtain ⟨y0, hy0⟩ : ∃ x, wrLX s (wrQ a1 LL (pre.map (·.1))) = x := ⟨_, rfl⟩
        have hlenP : PC.length = e := by rw [← hPC, pieceAt_len, HLM.out, he]
        have he1 : 0 < e := by omega
        have he64 : e ≤ 64 := by omega
        have hpr := hI.piece HLM.out k
        rw [hPC, hi0] at hpr
        rw [haz, hy0] at hI
        have hy0R : y0.R.length + 1 ≤ 1000000 := by
          rw [← hy0]
          have h1 := wrLX_len s (wrQ a1 LL (pre.map (·.1)))
          have h2 : (wrQ a1 LL (pre.map (·.1))).length = pre.length := by simp [wrQ]
          have h3 := HNP.out
          have := HR.out
          have : cntP M ≤ 20000 := by unfold cntP; have := HM.out; have := HM6.out; omega
          omega
        have hazn : az < n := by have := HNP.out; rw [HM.out] at this; omega
        have haz6 : az ≤ 100000 := by have := HN9.out; omega
        obtain ⟨z1, hz1⟩ : ∃ x, az + 1 = x := ⟨_, rfl⟩
        have hzi : (az : Int) + 1 = (z1 : Int) := by omega
        obtain ⟨y, hy⟩ : ∃ x, wrX y0 az (padTo 64 PC) = x := ⟨_, rfl⟩
        have hyN : wrLX s (wrQ a1 LL ((pre ++ [(⟨k, hk⟩ : PcV M)]).map (·.1))) = y := by
          rw [List.map_append]
          show wrLX s (wrQ a1 LL (pre.map (·.1) ++ [k])) = y
          rw [wrQ_snoc, wrLX_snoc, hy0, List.length_map, haz, hPC, hy]
        obtain ⟨er, her⟩ : ∃ x, erX y = x := ⟨_, rfl⟩
        obtain ⟨gx, hgx⟩ : ∃ x, W.heap.size = x := ⟨_, rfl⟩
        obtain ⟨wa, hwa⟩ : ∃ W2, W.alloc (.cells (rowOf zsec) 58) = W2 := ⟨_, rfl⟩
        have KA := hidg_ (show Bk wa gx 58 (rowOf zsec) by rw [← hwa, ← hgx]; exact Bk.new W _ _)
        have BA := hidg_ (show Below gx W wa by rw [← hwa, ← hgx]; exact (Below.refl _ _).alloc (Nat.le_refl _) _)
        have HPD := hidg_ (show (padTo 64 PC).length = 64 from padTo_len _ _ (by omega))
        have HCP := hidg_ (copy_pad PC (by omega))
        have RP := hidg_ ((hpr.below (show Below W.heap.size W wa by rw [hgx]; exact BA.out)).more (show W.heap.size ≤ wa.heap.size from BA.out.size))
        have HI := hidg_ hI
        have HGX := hidg_ hgx
        have HYN := hidg_ hyN
        have HLP := hidg_ hlenP
        have HZ1 := hidg_ hz1
        have HAZ := hidg_ haz
        have HAZN := hidg_ hazn
        have HY := hidg_ hy
        have HYR := hidg_ hy0R
        have HER2 := hidg_ her
        have HS0 := hidg_ (iSec (padTo 64 PC) HPD.out)
        obtain ⟨PD, hPD⟩ : ∃ x, padTo 64 PC = x := ⟨_, rfl⟩
        rw [hPD] at HPD HCP HY HS0
        have hz := zeroSec W
        have sa := fun W => slice_allS gx W
        have HMN := hidg_ (show e = Nat.min e 64 by show e = min e 64; omega)
        have hfit : 0 + e ≤ (rowOf zsec).size := by rw [rowOf_size, zsec_len]; omega
        dsimp only
        rw [he, hi0]
        clear hI hlt hr hl hpr hlenP hy hy0R hPC hPD hyN hy0 haz hazn hz1 her he hi0
        gi_wp2_with (refine wpListIn_copy8 rfl (.tmp 45) (.tmp 46) rfl gx 0 64 64 rfl (some ⟨b, i0, none⟩) e e rfl PC e HLP.out he1 HMN.out wa.heap.size (RP.out.rdn (Nat.le_refl _) (Nat.le_refl _)) 58 (rowOf zsec) KA.out hfit ?_; intro w9 k9 g9 s9; rw [HCP.out] at k9; have K9 := hidg_ k9; have X9 := hidg_ (BA.out.grown g9 (by have := BA.out.size; have := HGX.out; omega) (fun k e => by injection e with e; omega)); clear k9 g9 s9)
        rename_i K12 hK12 K10 hK10
        obtain ⟨wd, hwd⟩ : ∃ W3, { w9 with drawn := w9.drawn + 1 } = W3 := ⟨_, rfl⟩
        have BW9 := hidg_ (show Below W.heap.size W wd by rw [HGX.out, ← hwd]; exact ⟨X9.out.os, X9.out.tape, X9.out.output, X9.out.size, X9.out.block⟩)
        have I9 := hidg_ (HI.out.below HB0.out BW9.out)
        have HX := hidg_ (show Bk wd gx 58 (rowOf PD) by rw [← hwd]; exact K9.out)
        have HWD := hidg_ hwd
        clear hwd
        refine region_byJFW [48, 49, 50, 51, 52, 53, 54, 14] (fun _ => True) (fun _ _ => True) (FeR g p az PD er) (fun D2 a9 W3 => PhJ dpsF 6 (fun W3 => W3 = wd) (fun W3 => DkJ b0 W3 p q n y ∧ Below b0 wd W3 ∧ UnT dkT wd W3) D2 a9 W3) (by kernel_rfl) (fun h => by obtain ⟨_, _, h⟩ := h; first | exact h | (simp (config := { zetaDelta := true }) [Exit.then, Exit.inBlock, ownPostG] at h)) (by kernel_rfl) (by kernel_rfl) (by kernel_rfl) (by kernel_rfl) (fun j v w w' hT hr => ?_) (fun j v w hlt hj _ => ?_) trivial ?_ (by rw [HWD.out]; exact PhJ.start rfl) ?_
        · exact FeR.keep hr
        · rcases j with _ | _ | _ | _ | _ | _ | _ | _ | j
          all_goals first
            | (exfalso; simp [dstOf] at hj; done)
            | trivial
        · refine ⟨fun D2 a9 W3 hC hd hsz hf hv hJ hL hW K hK => ?_, fun D2 a9 W3 hC hd hsz hf hv hJ hL hW K hK => ?_, fun D2 a9 W3 hC hd hsz hf hv hJ hL hW K hK => ?_, fun D2 a9 W3 hC hd hsz hf hv hJ hL hW K hK => ?_, fun D2 a9 W3 hC hd hsz hf hv hJ hL hW K hK => ?_, fun D2 a9 W3 hC hd hsz hf hv hJ hL hW K hK => ?_, fun D2 a9 W3 hC hd hsz hf hv hJ hL hW K hK => ?_, fun D2 a9 W3 hC hd hsz hf hv hJ hL hW K hK => ?_, trivial⟩
          · clear hsz
            have e1 := slot_of (a := a9) (s := 4) (v := .pointer (some ⟨g0, 0, none⟩)) (hf 4 (by kernel_rfl))
            have hw := hJ.get 0 [1, 2, 3, 6] rfl rfl hL
            subst hw
            have cc := I9.out.bg.cell 0
            simp only [List.getElem?_toArray, List.getElem?_cons_zero] at cc
            refine step_run (wanted_none rfl) (v := .pointer (some ⟨g, 0, none⟩)) (w' := W3) ?_ (hK _ _ trivial trivial rfl (hJ.same 0 (by decide) ls0))
            go_simp
          · clear hsz
            have e1 := slot_of (a := a9) (s := 48) (v := .pointer (some ⟨g, 0, none⟩)) (hv 0 (by kernel_rfl))
            refine step_run (wanted_none rfl) (v := .pointer (some ⟨g, 0, none⟩)) (w' := W3) ?_ (hK _ _ trivial trivial rfl (hJ.same 1 (by decide) (ls1 (hW 0 (by kernel_rfl)))))
            go_simp
          · clear hsz
            have e1 := slot_of (a := a9) (s := 49) (v := .pointer (some ⟨g, 0, none⟩)) (hv 1 (by kernel_rfl))
            refine step_run (wanted_none rfl) (v := .pointer (some ⟨g, 0, none⟩)) (w' := W3) ?_ (hK _ _ trivial trivial rfl (hJ.same 2 (by decide) (ls1 (hW 1 (by kernel_rfl)))))
            go_simp
          · clear hsz
            have e1 := slot_of (a := a9) (s := 50) (v := .pointer (some ⟨g, 0, none⟩)) (hv 2 (by kernel_rfl))
            have hw := hJ.get 3 [6] rfl rfl hL
            subst hw
            have cc := I9.out.lg.cells.1
            refine step_run (wanted_none rfl) (v := .pointer (some ⟨p, 0, none⟩)) (w' := W3) ?_ (hK _ _ trivial trivial rfl (hJ.same 3 (by decide) (ls1 (hW 2 (by kernel_rfl)))))
            go_simp
          · clear hsz
            have e1 := slot_of (a := a9) (s := 9) (v := .pointer (some ⟨g0 + 2, 0, none⟩)) (hf 9 (by kernel_rfl))
            have hw := hJ.get 4 [6] rfl rfl hL
            subst hw
            have cc := I9.out.ba.cell 0
            simp only [List.getElem?_toArray, List.getElem?_cons_zero] at cc
            refine step_run (wanted_none rfl) (v := .int .i64 (az : Int)) (w' := W3) ?_ (hK _ _ trivial trivial rfl (hJ.same 4 (by decide) ls0))
            go_simp
          · clear hsz
            have hw := hJ.get 5 [6] rfl rfl hL
            subst hw
            refine step_load_sub (wanted_none rfl) 58 (.tmp 13) rfl gx 0 (eval_of (hf 13 (by kernel_rfl))) (rowOf PD) (fun j hj => by rw [Nat.zero_add]; exact HX.out.cell j) _ Try.underlying58 rfl HS0.out ?_
            exact hK _ _ trivial trivial rfl (hJ.same 5 (by decide) ls0)
          · clear hsz
            have hw := hJ.old hL
            subst hw
            have e1 := slot_of (a := a9) (s := 51) (v := .pointer (some ⟨p, 0, none⟩)) (hv 3 (by kernel_rfl))
            have e2 := slot_of (a := a9) (s := 52) (v := .int .i64 (az : Int)) (hv 4 (by kernel_rfl))
            have e3 := slot_of (a := a9) (s := 53) (v := .agg (rowOf PD)) (hv 5 (by kernel_rfl))
            have cw := dwrite_x I9.out.dk (Nat.le_trans HB0.out I9.out.un.1) az HAZN.out PD HPD.out HYR.out
            rw [HY.out] at cw
            unfold DkQ at cw
            rw [HER2.out] at cw
            refine step_callx 28 #[.pointer (some ⟨p, 0, none⟩), .int .i64 (az : Int), .agg (rowOf PD)] (wanted_none rfl) (w' := W3) ?_ (cw.mono fun e W2 hh => ?_)
            · go_simp
            · obtain ⟨rfl, h1, h2, h3⟩ := hh
              exact ⟨_, rfl, hK _ _ trivial trivial rfl (hJ.store (ls3 (hW 3 (by kernel_rfl)) (hW 4 (by kernel_rfl)) (hW 5 (by kernel_rfl))) ⟨h1, h2, h3⟩)⟩
          · clear hsz
            have e1 := slot_of (a := a9) (s := 54) (v := .int .i64 er) (hv 6 (by kernel_rfl))
            refine step_run (wanted_none rfl) (v := .int .i64 er) (w' := W3) ?_ (hK _ _ trivial trivial rfl (hJ.same 7 (by decide) (ls1 (hW 6 (by kernel_rfl)))))
            go_simp
        · intro f6 w8 hC6 hv6 D6 hD6 hJ6
          obtain ⟨aE, hJ, _⟩ := hJ6
          obtain ⟨hd8, hb8, hu8⟩ := hJ.fin (hD6 6 (by decide))
          have e14 : f6 14 = .int .i64 er := hv6 7 (by decide)
          have I8 := hidg_ (I9.out.wrote hd8 hb8 hu8)
          have U8 := hidg_ ((UnT.of_below BW9.out).trans hu8)
          simp only [framed, List.foldl_cons, List.foldl_nil, List.setIfInBounds_toArray, List.set_cons_succ, List.set_cons_zero]
          rw [e14]
          clear hv6 hC6 hJ hD6 hd8 hb8 hu8 e14 I9 HX HWD
          refine hK10 _ _ ?_
          have HKP := hidg_ (show KpC bs (bs + 1) W w8 from ⟨U8.out.1, I8.out.bs.trans HI.out.bs.symm, I8.out.bn.trans HI.out.bn.symm⟩)
          cases ho : y.off with
          | true =>
            have e9 : er = 9 := by rw [← HER2.out, erX, if_pos ho]
            subst e9
            have cc9 := I8.out.br.cell 0
            simp only [List.getElem?_toArray, List.getElem?_cons_zero] at cc9
            have f9 := I8.out.br.frozen 0
            have IT := hidg_ (I8.out.told HB0.out (by have := HG0.out; omega) 9)
            have HO2 := hidg_ ho
            clear ho
            gi_wp2
            refine ⟨(kf_unt U8.out).trans ((KeepsOthers.setCell _ _ _).from _), rfl, ⟨az, ?_⟩, ?_, ?_⟩
            · rw [HYN.out]; exact IT.out
            · rw [HYN.out]; exact HO2.out
            · exact Nat.le_trans hlt2 (by have := U8.out.1; simpa using this)
          | false =>
            have e9 : er = 0 := by rw [← HER2.out, erX, if_neg (by rw [ho]; decide)]
            subst e9
            have cc9 := I8.out.ba.cell 0
            simp only [List.getElem?_toArray, List.getElem?_cons_zero] at cc9
            have f9 := I8.out.ba.frozen 0
            have IT := hidg_ (I8.out.next HB0.out (by have := HG0.out; omega) (by have := HBS.out; omega) z1)
            clear ho
            gi_wp2
            refine ⟨(kf_unt U8.out).trans ((KeepsOthers.setCell _ _ _).from _), HKP.out.trans ⟨by simp, Below.heap_setCell w8 ⟨g0 + 2, 0, none⟩ _ bs (by have := HBS.out; show bs ≠ g0 + 2; omega), Below.heap_setCell w8 ⟨g0 + 2, 0, none⟩ _ (bs + 1) (by have := HBS.out; show bs + 1 ≠ g0 + 2; omega)⟩, ?_, ?_⟩
            · rw [HYN.out, List.length_append, show a1 + (pre.length + [(⟨k, hk⟩ : PcV M)].length) = z1 by have := HAZ.out; have := HZ1.out; simp; omega]
              exact IT.out
            · exact Nat.le_trans hlt2 (by have := U8.out.1; simpa using this)
      case done =>
        rintro D xs W hD hS ⟨hI, hszI⟩ hKD
        have hys : wrLX s (wrQ a1 LL (xs.map (·.1))) = wrLX s (wrC a1 LL (cntP M)) := by rw [hS, wrQ_range]
        rw [hys] at hI
        obtain ⟨y0, hy0⟩ : ∃ x, wrLX s (wrC a1 LL (cntP M)) = x := ⟨_, rfl⟩
        rw [hy0] at hI
        have HFX := hidg_ (show filX s n a f l = syX y0 by rw [← hy0, ← HLL.out, HDV.out, ← HM.out]; unfold filX filL; rw [HFS.out, HFQ.out, HFR.out, HA1.out, HL.out])
        obtain ⟨y, hy⟩ : ∃ x, syX y0 = x := ⟨_, rfl⟩
        rw [hy] at HFX
        have csy := dsync_x hI.dk
        rw [hy] at csy
        obtain ⟨er, her⟩ : ∃ x, erX y = x := ⟨_, rfl⟩
        unfold DkQ at csy
        rw [her] at csy
        have cg := hI.bg.cell 0
        simp only [List.getElem?_toArray, List.getElem?_cons_zero] at cg
        have cl := hI.lg.cells.1
        have HI := hidg_ hI
        have HER2 := hidg_ her
        have HKD := hidg_ hKD
        have HHD := hidg_ (show w.heap.size ≤ D by have := FL.out.un.1; omega)
        have hgg := HG0.out
        clear hI hys hy0 hy her hKD hD hS hSeq hszI
        rename_i Kc hKc
        refine hKc _ _ ?_
        go_wp2_with (go_at_call 51; ((with_reducible refine csy.mono ?_); clear csy; rintro e W2 ⟨rfl, hd2, hb2, hu2⟩; have I2 := hidg_ (HI.out.wrote hd2 hb2 hu2); have cc9 := I2.out.br.cell 0; simp only [List.getElem?_toArray, List.getElem?_cons_zero] at cc9; have f9 := I2.out.br.frozen 0; have IT := hidg_ (I2.out.told HB0.out (by omega) er); have D2 := hidg_ ((kf_unt (B := D) hu2).same D _ (Nat.le_refl _) HKD.out rfl); clear hd2 hb2 hu2))
        have hD3 := ((KeepsOthers.setCell W2 ⟨g0 + 1, 0, none⟩ (.int .i64 er)).from D).same D _ (Nat.le_refl _) D2.out rfl
        refine ⟨by simp, .inl ⟨_, _, rfl, run_takeDeferred hD3, ?_⟩⟩
        have hF := IT.out.turned (B := w.heap.size) HB0.out (Nat.le_refl _) (grownBy_putObj' _ D (.deferred none)) (fun r e => by cases e; exact ⟨HHD.out, _, hD3, rfl⟩)
        exact ⟨.int .i64 er, results_cellK Try.results56 _ _ (g0 + 1) rfl (by have cc := hF.br.cell 0; simp only [List.getElem?_toArray, List.getElem?_cons_zero] at cc; go_simp), by rw [HFX.out, HER2.out], by rw [HFX.out]; exact hF.dk, hF.lg, hF.be, hF.un⟩
      case stop =>
        rintro D c pre W hD ⟨hp1, hp2⟩ ⟨rfl, ⟨z, hI⟩, hoff, hszI⟩ hKD
        have hys : wrLX s (wrQ a1 LL (pre.map (·.1))) = wrLX s (wrC a1 LL pre.length) := by rw [hp1, wrQ_range]
        rw [hys] at hI hoff
        have hcut := wrLX_cut s a1 LL pre.length (cntP M) hp2 hoff
        obtain ⟨y, hy⟩ : ∃ x, wrLX s (wrC a1 LL pre.length) = x := ⟨_, rfl⟩
        rw [hy] at hI hoff hcut
        have HFX := hidg_ (show filX s n a f l = y by rw [← syX_off hoff, ← hcut, ← HLL.out, HDV.out, ← HM.out]; unfold filX filL; rw [HFS.out, HFQ.out, HFR.out, HA1.out, HL.out])
        have HI := hidg_ hI
        have HKD := hidg_ hKD
        have HOF := hidg_ hoff
        have HHD := hidg_ (show w.heap.size ≤ D by have := FL.out.un.1; omega)
        clear hI hys hy hKD hD hSeq hszI hcut hoff hp1 hp2
        refine wpIn_wide.2 ?_
        go_wp2
        refine ⟨by simp, .inl ⟨_, _, rfl, run_takeDeferred HKD.out, ?_⟩⟩
        have hF := HI.out.turned (B := w.heap.size) HB0.out (Nat.le_refl _) (grownBy_putObj' _ D (.deferred none)) (fun r e => by cases e; exact ⟨HHD.out, _, HKD.out, rfl⟩)
        exact ⟨.int .i64 9, results_cellK Try.results56 _ _ (g0 + 1) rfl (by have cc := hF.br.cell 0; simp only [List.getElem?_toArray, List.getElem?_cons_zero] at cc; go_simp), by rw [HFX.out, erX, if_pos HOF.out], by rw [HFX.out]; exact hF.dk, hF.lg, hF.be, hF.un⟩
end
end Go.Proofs.Ytdlciehboimciaa
