/-
  Merged: Dkd Dke Dkf Dkg Dkh.
-/
import Derived.Test.YtdlciehboimciaaDA
namespace Go.Proofs.Ytdlciehboimciaa
set_option maxRecDepth 100000
open Go.RowKit
set_option linter.unusedVariables false
set_option linter.unusedSimpArgs false

theorem results_cell_slotK {P : Program} {fn : Func} {p q : Tmp} {ty : TypeId} (h : fn.results = #[.cell p ty, .tmp q]) (tmps : Array Value) (w : World) (g : Nat) {v v' : Value}
    (hp : tmps.getD p undef = .pointer (some ⟨g, 0, none⟩)) (hq : tmps.getD q undef = v')
    (h1 : (loadVar ty ⟨g, 0, none⟩).run P w = .ok v w) :
    (results fn tmps).run P w = .ok (.tuple #[v, v']) w := by
  have hp' : tmps[p]?.getD undef = .pointer (some ⟨g, 0, none⟩) := by simpa using hp
  have hq' : tmps[q]?.getD undef = v' := by simpa using hq
  simp [results, h, hp', hq', asAddr, h1]
theorem results_cellK {P : Program} {fn : Func} {p : Tmp} {ty : TypeId} (h : fn.results = #[.cell p ty]) (tmps : Array Value) (w : World) (g : Nat) {v : Value}
    (hp : tmps.getD p undef = .pointer (some ⟨g, 0, none⟩)) (h1 : (loadVar ty ⟨g, 0, none⟩).run P w = .ok v w) :
    (results fn tmps).run P w = .ok v w := by
  have hp' : tmps[p]?.getD undef = .pointer (some ⟨g, 0, none⟩) := by simpa using hp
  simp [results, h, hp', asAddr, h1]
theorem zsec_len : zsec.length = 64 := by simp [zsec]
theorem iSec (D : List UInt8) (h : D.length = 64) : (Try.prog.info? 58).map (·.size) = some (rowOf D).size := by
  rw [rowOf_size, h]
  kernel_rfl
theorem zeroSec (W : World) : (zeroValue 58).run Try.prog W = .ok (.agg (rowOf zsec)) W := by kernel_rfl
theorem built_sec0 : Try.prog.built 58 [] = some (rowOf zsec) := by kernel_rfl
section
variable {b0 : Nat} {w : World} {p q n : Nat} {F : List (List UInt8)} {R : List WrV} {v : Value} {fu : Nat} {off : Bool}
theorem getD_mem64 {S : List (List UInt8)} (hS : ∀ D ∈ S, D.length = 64) (k : Nat) (hk : k < S.length) : (S.getD k []).length = 64 := by
  have e : S.getD k [] = S[k] := by simp [List.getD, hk]
  rw [e]
  exact hS _ (List.getElem_mem hk)
/-- A sector's cells. -/
theorem DkV.sec (h : DkV b0 w p q n F R v fu off) (k : Nat) (hk : k < n) : ((appl F R).getD k []).length = 64 ∧ ∀ j, j < (rowOf ((appl F R).getD k [])).size → w.cell? ⟨q, k * 64 + j, none⟩ = (rowOf ((appl F R).getD k []))[j]? := by
  have hk' : k < (appl F R).length := by rw [appl_len, h.hF]; exact hk
  have h64 := getD_mem64 h.app64 k hk'
  refine ⟨h64, fun j hj => ?_⟩
  rw [rowOf_size, h64] at hj
  have e : (appl F R).getD k [] = (appl F R)[k] := by simp [List.getD, hk']
  rw [h.bq.cell, List.getElem?_toArray, flatC_at _ k j hk' (fun x hx => by rw [rowOf_size]; exact h.app64 x hx) hj, e]
/-- What Read tells. -/
def readD (n : Nat) (F : List (List UInt8)) (R : List WrV) (off : Bool) (z : Int) : List UInt8 := if hasE n off z = 0 then (appl F R).getD z.toNat [] else zsec
set_option maxRecDepth 100000 in
set_option maxHeartbeats 4000000 in
theorem dread_any (h : DkI b0 w p q n F R fu off) (z : Int) : Calls Try.prog 27 #[.pointer (some ⟨p, 0, none⟩), .int .i64 z] w fun e w' => e = .returned (.tuple #[.agg (rowOf (readD n F R off z)), .int .i64 (hasE n off z)]) ∧ Below w.heap.size w w' := by
  obtain ⟨w1, hw1⟩ : ∃ W, w.alloc (.cells (rowOf zsec) 58) = W := ⟨_, rfl⟩
  have b1 : Below w.heap.size w w1 := by rw [← hw1]; exact (Below.refl _ _).alloc (Nat.le_refl _) _
  have K1 := hidD_ (show Bk w1 w.heap.size 58 (rowOf zsec) by rw [← hw1]; exact Bk.new w _ _)
  have h1 := h.below b1
  have ci := dhas_any h1 z
  have hz := zeroSec w
  have B1 := hidD_ b1
  obtain ⟨g, hg⟩ : ∃ g, w.heap.size = g := ⟨_, rfl⟩
  obtain ⟨er, her⟩ : ∃ er, hasE n off z = er := ⟨_, rfl⟩
  unfold readD
  rw [her] at ci ⊢
  by_cases h0 : er = 0
  · subst h0
    rw [if_pos rfl]
    have hb : 0 ≤ z ∧ z < (n : Int) := by
      unfold hasE at her
      split at her
      · cases her
      · split at her
        · cases her
        · omega
    obtain ⟨k, rfl⟩ : ∃ k : Nat, z = (k : Int) := ⟨z.toNat, by omega⟩
    rw [show ((k : Int)).toNat = k from rfl]
    obtain ⟨v, hv⟩ := h1
    obtain ⟨c0, _, _, _⟩ := hv.cells
    obtain ⟨h64, hcs⟩ := hv.sec k (by omega)
    generalize (appl F R).getD k [] = D at h64 hcs
    have HC := hidD_ hcs
    have HI := hidD_ (iSec D h64)
    have t0 : (0 : Int) ≤ (k : Int) := hb.1
    have tn : (k : Int) < (n : Int) := hb.2
    clear h her hb b1 hv hcs
    rw [hg] at K1 B1
    go_enter Try.func27, Try.ntmps27
    go_wp2_with (first
      | (go_at_call 47; ((with_reducible refine ci.mono ?_); clear ci; rintro e w' ⟨rfl, rfl⟩))
      | (refine wpList_load_sub rfl 58 (.tmp 19) rfl q (k * 64) rfl (rowOf D) HC.out _ Try.underlying58 rfl HI.out ?_)
      | (refine wpList_put_row rfl 58 (.tmp 4) (.tmp 20) rfl g (rowOf D) rfl rfl 58 (rowOf zsec) K1.out HI.out (by rw [rowOf_size, rowOf_size, h64]; rfl) (bytes_one _) ?_; intro w9 k9 g9 s9; have K9 := hidD_ k9; have G9 := hidD_ g9; clear k9 g9 s9))
    exact bodyPost_ret (results_cell_slotK Try.results27 _ _ g rfl rfl (run_loadVar_row _ _ _ _ _ (0, 0) _ K9.out Try.underlying58 rfl HI.out)) rfl ⟨rfl, by rw [hg]; exact B1.out.grown G9.out (by have := B1.out.size; omega) (fun k e => by injection e with e; omega)⟩
  · rw [if_neg h0]
    have d0 : (er == 0) = false := by simpa using h0
    have HI := hidD_ (iSec zsec zsec_len)
    clear h her b1 h1 h0
    rw [hg] at K1 B1
    go_enter Try.func27, Try.ntmps27
    go_wp2_with (first
      | (go_at_call 47; ((with_reducible refine ci.mono ?_); clear ci; rintro e w' ⟨rfl, rfl⟩))
      | (refine wpList_built rfl 58 #[] rfl (rowOf zsec) built_sec0 ?_)
      | (refine wpList_put_row rfl 58 (.tmp 4) (.tmp 12) rfl g (rowOf zsec) rfl rfl 58 (rowOf zsec) K1.out HI.out rfl (bytes_one _) ?_; intro w9 k9 g9 s9; have K9 := hidD_ k9; have G9 := hidD_ g9; clear k9 g9 s9))
    exact bodyPost_ret (results_cell_slotK Try.results27 _ _ g rfl rfl (run_loadVar_row _ _ _ _ _ (0, 0) _ K9.out Try.underlying58 rfl HI.out)) rfl ⟨rfl, by rw [hg]; exact B1.out.grown G9.out (by have := B1.out.size; omega) (fun k e => by injection e with e; omega)⟩
set_option maxRecDepth 100000 in
set_option maxHeartbeats 4000000 in
theorem dread_nil (w : World) (z : Int) : Calls Try.prog 27 #[.pointer none, .int .i64 z] w fun e w' => e = .returned (.tuple #[.agg (rowOf zsec), .int .i64 1]) ∧ Below w.heap.size w w' := by
  obtain ⟨w1, hw1⟩ : ∃ W, w.alloc (.cells (rowOf zsec) 58) = W := ⟨_, rfl⟩
  have b1 : Below w.heap.size w w1 := by rw [← hw1]; exact (Below.refl _ _).alloc (Nat.le_refl _) _
  have K1 := hidD_ (show Bk w1 w.heap.size 58 (rowOf zsec) by rw [← hw1]; exact Bk.new w _ _)
  have ci := dhas_nil w1 z
  have hz := zeroSec w
  have B1 := hidD_ b1
  obtain ⟨g, hg⟩ : ∃ g, w.heap.size = g := ⟨_, rfl⟩
  have HI := hidD_ (iSec zsec zsec_len)
  clear b1
  rw [hg] at K1 B1
  go_enter Try.func27, Try.ntmps27
  go_wp2_with (first
    | (go_at_call 47; ((with_reducible refine ci.mono ?_); clear ci; rintro e w' ⟨rfl, rfl⟩))
    | (refine wpList_built rfl 58 #[] rfl (rowOf zsec) built_sec0 ?_)
    | (refine wpList_put_row rfl 58 (.tmp 4) (.tmp 12) rfl g (rowOf zsec) rfl rfl 58 (rowOf zsec) K1.out HI.out rfl (bytes_one _) ?_; intro w9 k9 g9 s9; have K9 := hidD_ k9; have G9 := hidD_ g9; clear k9 g9 s9))
  exact bodyPost_ret (results_cell_slotK Try.results27 _ _ g rfl rfl (run_loadVar_row _ _ _ _ _ (0, 0) _ K9.out Try.underlying58 rfl HI.out)) rfl ⟨rfl, by rw [hg]; exact B1.out.grown G9.out (by have := B1.out.size; omega) (fun k e => by injection e with e; omega)⟩
end
end Go.Proofs.Ytdlciehboimciaa

namespace Go.Proofs.Ytdlciehboimciaa
set_option maxRecDepth 100000
open Go.RowKit
set_option linter.unusedVariables false
set_option linter.unusedSimpArgs false

/-- Each of a way's operations waits for the one ahead of it. -/
def wayB (deps : Nat → List Nat) : List Nat → Bool
  | a :: b :: l => (deps b).contains a && wayB deps (b :: l)
  | _ => true
theorem way_down {deps : Nat → List Nat} {D : Nat → Bool} (cl : ∀ i, D i = true → ∀ j ∈ deps i, D j = true) : ∀ (l : List Nat) (i k : Nat), wayB deps (i :: l) = true → (i :: l).getLast? = some k → D i = false → D k = false
  | [], i, k, _, hk, h => by
    simp at hk
    subst hk
    exact h
  | b :: l, i, k, hw, hk, h => by
    simp only [wayB, Bool.and_eq_true, List.contains_iff_mem] at hw
    have hb : D b = false := by
      cases e : D b with
      | false => rfl
      | true => rw [cl b e i hw.1] at h; cases h
    exact way_down cl l b k hw.2 (by simpa using hk) hb
theorem ls0 {D : Nat → Bool} : ∀ j ∈ ([] : List Nat), D j = true := fun _ h => (by cases h)
theorem ls1 {D : Nat → Bool} {a : Nat} (h : D a = true) : ∀ j ∈ [a], D j = true := fun j hj => by simp at hj; subst hj; exact h
theorem ls2 {D : Nat → Bool} {a b : Nat} (h : D a = true) (h2 : D b = true) : ∀ j ∈ [a, b], D j = true := fun j hj => by
  simp at hj
  rcases hj with rfl | rfl <;> assumption
theorem ls3 {D : Nat → Bool} {a b c : Nat} (h : D a = true) (h2 : D b = true) (h3 : D c = true) : ∀ j ∈ [a, b, c], D j = true := fun j hj => by
  simp at hj
  rcases hj with rfl | rfl | rfl <;> assumption
/-- One store, its last one: Old holds ahead of it, Fin behind it. -/
structure PhJ (deps : Nat → List Nat) (iS : Nat) (Old Fin : World → Prop) (D : Nat → Bool) (a : Act) (W : World) : Prop where
  cl : ∀ i, D i = true → ∀ j ∈ deps i, D j = true
  old : D iS = false → Old W
  fin : D iS = true → Fin W
section
variable {deps : Nat → List Nat} {iS : Nat} {Old Fin : World → Prop} {D : Nat → Bool} {a a' : Act} {W W' : World}
theorem PhJ.start (h : Old W) : PhJ deps iS Old Fin (fun _ => false) a W := ⟨fun _ e => (by cases e), fun _ => h, fun e => (by cases e)⟩
theorem cl_or {i : Nat} (cl : ∀ i, D i = true → ∀ j ∈ deps i, D j = true) (hd : ∀ j ∈ deps i, D j = true) : ∀ k, (decide (k = i) || D k) = true → ∀ j ∈ deps k, (decide (j = i) || D j) = true := fun k hk j hj => by
  by_cases h : k = i
  · subst h
    simp [hd j hj]
  · have : D k = true := by simpa [h] using hk
    simp [cl k this j hj]
theorem PhJ.same (h : PhJ deps iS Old Fin D a W) (i : Nat) (hi : iS ≠ i) (hd : ∀ j ∈ deps i, D j = true) : PhJ deps iS Old Fin (fun j => decide (j = i) || D j) a' W :=
  ⟨cl_or h.cl hd, by rw [orf_ne hi]; exact h.old, by rw [orf_ne hi]; exact h.fin⟩
theorem PhJ.store (h : PhJ deps iS Old Fin D a W) (hd : ∀ j ∈ deps iS, D j = true) (hF : Fin W') : PhJ deps iS Old Fin (fun j => decide (j = iS) || D j) a' W' :=
  ⟨cl_or h.cl hd, fun e => (by rw [orf_eq] at e; cases e), fun _ => hF⟩
theorem PhJ.get (h : PhJ deps iS Old Fin D a W) (i : Nat) (l : List Nat) (hw : wayB deps (i :: l) = true) (hk : (i :: l).getLast? = some iS) (hi : D i = false) : Old W := h.old (way_down h.cl l i iS hw hk hi)
end
/-- A slice of one laid, an append, a store: ib, ia, iS their places; db, da the slots of the first two. -/
structure ApP (deps : Nat → List Nat) (ib db ia da iS : Nat) (W0 : World) (Old : World → Prop) (Pb Pa : Value → World → Prop) (Fin : World → Prop) (D : Nat → Bool) (a : Act) (W : World) : Prop where
  cl : ∀ i, D i = true → ∀ j ∈ deps i, D j = true
  old : D iS = false → Old W
  z : D ib = false → W = W0
  b : D ib = true → D ia = false → Pb (a.tmps.getD db undef) W
  c : D ia = true → D iS = false → Pa (a.tmps.getD da undef) W
  fin : D iS = true → Fin W
section
variable {deps : Nat → List Nat} {ib db ia da iS : Nat} {W0 : World} {Old : World → Prop} {Pb Pa : Value → World → Prop} {Fin : World → Prop} {D : Nat → Bool} {a : Act} {W W' : World}
theorem ApP.start (h : Old W0) : ApP deps ib db ia da iS W0 Old Pb Pa Fin (fun _ => false) a W0 := ⟨fun _ e => (by cases e), fun _ => h, fun _ => rfl, fun e => (by cases e), fun e => (by cases e), fun e => (by cases e)⟩
theorem put_otherD {s d : Nat} {a : Act} {v : Value} (h : d ≠ s) : (a.put (some s) v).tmps.getD d undef = a.tmps.getD d undef := by
  simp [Act.put, Array.getElem?_setIfInBounds, Ne.symm h]
theorem put_selfD {s : Nat} {a : Act} {v : Value} (h : s < a.tmps.size) : (a.put (some s) v).tmps.getD s undef = v := by
  simp [Act.put, Array.getElem?_setIfInBounds, h]
theorem ApP.same (h : ApP deps ib db ia da iS W0 Old Pb Pa Fin D a W) (i s : Nat) (v : Value) (hi : ib ≠ i ∧ ia ≠ i ∧ iS ≠ i) (hs : db ≠ s ∧ da ≠ s) (hd : ∀ j ∈ deps i, D j = true) : ApP deps ib db ia da iS W0 Old Pb Pa Fin (fun j => decide (j = i) || D j) (a.put (some s) v) W := by
  refine ⟨cl_or h.cl hd, ?_, ?_, ?_, ?_, ?_⟩
  · rw [orf_ne hi.2.2]; exact h.old
  · rw [orf_ne hi.1]; exact h.z
  · rw [orf_ne hi.1, orf_ne hi.2.1, put_otherD hs.1]; exact h.b
  · rw [orf_ne hi.2.1, orf_ne hi.2.2, put_otherD hs.2]; exact h.c
  · rw [orf_ne hi.2.2]; exact h.fin
theorem ApP.get (h : ApP deps ib db ia da iS W0 Old Pb Pa Fin D a W) (i : Nat) (l : List Nat) (hw : wayB deps (i :: l) = true) (hk : (i :: l).getLast? = some iS) (hi : D i = false) : Old W := h.old (way_down h.cl l i iS hw hk hi)
theorem ApP.lay (h : ApP deps ib db ia da iS W0 Old Pb Pa Fin D a W) (v : Value) (hL : D ib = false) (hi : ia ≠ ib ∧ iS ≠ ib) (hd : ∀ j ∈ deps ib, D j = true) (w1 : wayB deps [ib, ia] = true) (w2 : wayB deps [ib, ia, iS] = true) (hsz : db < a.tmps.size) (hO : Old W') (hp : Pb v W') :
    ApP deps ib db ia da iS W0 Old Pb Pa Fin (fun j => decide (j = ib) || D j) (a.put (some db) v) W' := by
  have ha := way_down h.cl [ia] ib ia w1 rfl hL
  have hS := way_down h.cl [ia, iS] ib iS w2 rfl hL
  refine ⟨cl_or h.cl hd, fun _ => hO, fun e => ?_, fun _ _ => ?_, fun e => ?_, fun e => ?_⟩
  · rw [orf_eq] at e; cases e
  · rw [put_selfD hsz]; exact hp
  · rw [orf_ne hi.1, ha] at e; cases e
  · rw [orf_ne hi.2, hS] at e; cases e
theorem ApP.app (h : ApP deps ib db ia da iS W0 Old Pb Pa Fin D a W) (v : Value) (hL : D ia = false) (hi : ib ≠ ia ∧ iS ≠ ia) (hd : ∀ j ∈ deps ia, D j = true) (hib : D ib = true) (w2 : wayB deps [ia, iS] = true) (hsz : da < a.tmps.size) (hO : Old W') (hp : Pa v W') :
    ApP deps ib db ia da iS W0 Old Pb Pa Fin (fun j => decide (j = ia) || D j) (a.put (some da) v) W' := by
  have hS := way_down h.cl [iS] ia iS w2 rfl hL
  refine ⟨cl_or h.cl hd, fun _ => hO, fun e => ?_, fun _ e => ?_, fun _ _ => ?_, fun e => ?_⟩
  · rw [orf_ne hi.1, hib] at e; cases e
  · rw [orf_eq] at e; cases e
  · rw [put_selfD hsz]; exact hp
  · rw [orf_ne hi.2, hS] at e; cases e
theorem ApP.store (h : ApP deps ib db ia da iS W0 Old Pb Pa Fin D a W) (hi : ib ≠ iS ∧ ia ≠ iS) (hd : ∀ j ∈ deps iS, D j = true) (hib : D ib = true) (hia : D ia = true) (a' : Act) (hF : Fin W') :
    ApP deps ib db ia da iS W0 Old Pb Pa Fin (fun j => decide (j = iS) || D j) a' W' := by
  refine ⟨cl_or h.cl hd, fun e => ?_, fun e => ?_, fun _ e => ?_, fun _ e => ?_, fun _ => hF⟩
  · rw [orf_eq] at e; cases e
  · rw [orf_ne hi.1, hib] at e; cases e
  · rw [orf_ne hi.2, hia] at e; cases e
  · rw [orf_eq] at e; cases e
end
end Go.Proofs.Ytdlciehboimciaa

namespace Go.Proofs.Ytdlciehboimciaa
set_option maxRecDepth 100000
open Go.RowKit
set_option linter.unusedVariables false
set_option linter.unusedSimpArgs false

theorem fold_put (off : Nat) (vs cs : Array Value) (k : Nat) : (vs.zipIdx.foldl (fun cs (x : Value × Nat) => cs.setIfInBounds (off + x.2) x.1) cs).size = cs.size ∧
    (vs.zipIdx.foldl (fun cs (x : Value × Nat) => cs.setIfInBounds (off + x.2) x.1) cs)[k]? = if off ≤ k ∧ k < off + vs.size ∧ k < cs.size then vs[k - off]? else cs[k]? := by
  have e : vs.zipIdx.foldl (fun cs (x : Value × Nat) => cs.setIfInBounds (off + x.2) x.1) cs = (vs.toList.zipIdx 0).foldl (fun cs (x : Value × Nat) => cs.setIfInBounds (off + x.2) x.1) cs := by
    rw [← Array.foldl_toList, Array.toList_zipIdx]
  obtain ⟨h1, h2⟩ := Go.Great.foldl_set off vs.toList 0 cs
  rw [e]
  exact ⟨h1, by rw [h2 k]; simp⟩
theorem fill_three (z : Array Value) (hz : z.size = 129) (x : Int) (A B : Array Value) (hA : A.size = 64) (hB : B.size = 64) :
    Instr.fill (#[(0, 1), (1, 64), (65, 64)][·]?) z [(0, .int .i64 x), (1, .agg A), (2, .agg B)] = some (#[.int .i64 x] ++ A ++ B) := by
  have c0 : (Value.int .i64 x).cells = #[.int .i64 x] := rfl
  have cA : (Value.agg A).cells = A := rfl
  have cB : (Value.agg B).cells = B := rfl
  obtain ⟨s1, _⟩ := fold_put 0 #[.int .i64 x] z 0
  have p1 := fun k => (fold_put 0 #[.int .i64 x] z k).2
  generalize hz1 : (#[Value.int .i64 x].zipIdx.foldl (fun cs (x : Value × Nat) => cs.setIfInBounds (0 + x.2) x.1) z) = z1 at s1 p1
  obtain ⟨s2, _⟩ := fold_put 1 A z1 0
  have p2 := fun k => (fold_put 1 A z1 k).2
  generalize hz2 : (A.zipIdx.foldl (fun cs (x : Value × Nat) => cs.setIfInBounds (1 + x.2) x.1) z1) = z2 at s2 p2
  obtain ⟨s3, _⟩ := fold_put 65 B z2 0
  have p3 := fun k => (fold_put 65 B z2 k).2
  generalize hz3 : (B.zipIdx.foldl (fun cs (x : Value × Nat) => cs.setIfInBounds (65 + x.2) x.1) z2) = z3 at s3 p3
  simp only [Instr.fill, List.getElem?_toArray, List.getElem?_cons_zero, List.getElem?_cons_succ, c0, cA, cB, hA, hB]
  rw [if_neg (by simp [hz]), hz1, if_neg (by simp; omega), hz2, if_neg (by simp; omega), hz3]
  congr 1
  apply Array.ext_getElem?
  intro k
  rw [p3, p2, p1]
  have e3 : (#[Value.int .i64 x] ++ A ++ B).size = 129 := by simp [hA, hB]
  by_cases k0 : k = 0
  · subst k0
    rw [if_neg (by omega), if_neg (by omega), if_pos (by simp; omega), Array.append_assoc, Array.getElem?_append_left (by simp)]
  by_cases k1 : k < 65
  · rw [if_neg (by omega), if_pos (by omega), Array.getElem?_append_left (by simp; omega), Array.getElem?_append_right (by simp; omega)]
    simp
  by_cases k2 : k < 129
  · rw [if_pos (by omega), Array.getElem?_append_right (by simp; omega)]
    simp [hA]
  · rw [if_neg (by omega), if_neg (by omega), if_neg (by simp; omega), Array.getElem?_eq_none (by omega), Array.getElem?_eq_none (by omega)]
theorem infoW : (Try.prog.info? 86).map (fun i => (i.size, i.bytes, i.zero.map (·.cells.size))) = some (129, 136, some 129) := by kernel_rfl
theorem placesW : (match Try.prog.underlying 86 with | some (.struct fields) => fields.toList.mapM (fun f => (Try.prog.info? f.type).map fun i => (f.offset, i.size)) | _ => none) = some [(0, 1), (1, 64), (65, 64)] := by kernel_rfl
theorem built_wr (z : Nat) (X Y : List UInt8) (hX : X.length = 64) (hY : Y.length = 64) : Try.prog.built 86 [(0, .int .i64 (z : Int)), (1, .agg (rowOf X)), (2, .agg (rowOf Y))] = some (wrR (z, X, Y)) := by
  obtain ⟨i, hi, hii⟩ := Option.map_eq_some_iff.1 infoW
  simp only [Prod.mk.injEq] at hii
  obtain ⟨hsize, hby, hzz⟩ := hii
  obtain ⟨zz, hz, hzs⟩ := Option.map_eq_some_iff.1 hzz
  have hp := placesW
  have hu := Try.underlying86
  unfold Program.built
  rw [hu] at hp
  simp only at hp
  simp only [hi, hu, hz, hp]
  exact fill_three zz.cells hzs _ _ _ (by rw [rowOf_size, hX]) (by rw [rowOf_size, hY])
theorem wrR_one (x : Nat × List UInt8 × List UInt8) : ∀ u ∈ (wrR x).toList, u.oneCell' = true := fun u hu => by
  simp only [wrR, Array.toList_append, List.mem_append] at hu
  rcases hu with (h | h) | h
  · simp at h
    subst h
    rfl
  · exact rowOf_ones _ u h
  · exact rowOf_ones _ u h
/-- A slice of one write. -/
theorem run_oneW (w : World) (x : Nat × List UInt8 × List UInt8) (h1 : x.2.1.length = 64) (h2 : x.2.2.length = 64) : (Instr.buildSlice 65 1 #[(0, .agg (wrR x))]).run Try.prog w = .ok (.slice (some ⟨w.heap.size, 0, none⟩) 1 1) (w.alloc (.cells (wrR x) 86)) := by
  obtain ⟨i, hi, hii⟩ := Option.map_eq_some_iff.1 infoW
  simp only [Prod.mk.injEq] at hii
  obtain ⟨hsize, hby, hzz⟩ := hii
  obtain ⟨z, hz, hzs⟩ := Option.map_eq_some_iff.1 hzz
  refine run_buildSlice w 65 86 1 _ (wrR x) i z Try.underlying65 hi hz (by rw [hsize]; decide) (by rw [hsize]; decide) ?_
  rw [hsize]
  have h := Go.Great.fill_whole (s := 129) (by decide) [.agg (wrR x)] ((Array.range (1 * 129)).map (z.cells[· % z.cells.size]!)) (fun v hv => by simp at hv; subst hv; exact wrR_size x h1 h2) (by simp)
  rw [show ([Value.agg (wrR x)].flatMap fun v => v.cells.toList).toArray = wrR x by simp [Value.cells]] at h
  exact h
/-- A write appended. -/
theorem run_appW {w : World} {b0 : Nat} {v : Value} {l : List (Nat × List UInt8 × List UInt8)} (h : w.ownsRow b0 86 129 v l.length (flatC wrR l)) (x : Nat × List UInt8 × List UInt8) (h1 : x.2.1.length = 64) (h2 : x.2.2.length = 64) (g : Nat) (hg : Bk w g 86 (wrR x)) (ty : TypeId) (c : Nat) (hsz : l.length + 1 ≤ 1000000) (hbase : b0 ≤ w.heap.size) :
    ∃ A' c' w', (Builtin.append_ #[65, 65] ty #[v, .slice (some ⟨g, 0, none⟩) 1 c]).run Try.prog w = .ok (.slice A' (l.length + 1) c') w' ∧ w'.ownsRow b0 86 129 (.slice A' (l.length + 1) c') (l.length + 1) (flatC wrR (l ++ [x])) ∧ w.grownBy w' v.ownBlock := by
  obtain ⟨i, hi, hii⟩ := Option.map_eq_some_iff.1 infoW
  simp only [Prod.mk.injEq] at hii
  obtain ⟨hsize, hby, hzz⟩ := hii
  obtain ⟨z, hz, hzs⟩ := Option.map_eq_some_iff.1 hzz
  have hplain : ∀ j, (⟨g, 0, none⟩ : Addr).add j = ⟨g, j, none⟩ := fun j => by unfold Addr.add; split <;> simp_all
  obtain ⟨v', w', hrun, h4, h3, _, h5⟩ := run_append_own_at (P := Try.prog) w b0 65 ty 86 i z 129 136 Try.underlying65 hi hz hsize hby hzs (by decide) v l.length (flatC wrR l) h ⟨g, 0, none⟩ 1 c (wrR x).toList
    (by rw [Array.length_toList, wrR_size x h1 h2]) (fun j u hj => by rw [hplain, hg.cell]; simpa using hj) (wrR_one x) (by simp only [maxLen]; omega) (by omega) hbase
  rw [← flatC_snoc] at h4
  rcases h4.2 with ⟨_, h0⟩ | ⟨g', cap, cur, rfl, _⟩
  · omega
  · exact ⟨_, _, w', hrun, h4, h3⟩
end Go.Proofs.Ytdlciehboimciaa

namespace Go.Proofs.Ytdlciehboimciaa
set_option maxRecDepth 100000
open Go.RowKit
set_option linter.unusedVariables false
set_option linter.unusedSimpArgs false

theorem step_built {P : Program} {ops : Array Oper} {o : Oper} {a : Act} {w : World} {K : Act → World → Prop} {Q : Exit → Act → World → Prop} {E : Prop} (hw : Region.wanted o (yielded ops a.tmps) = true) (t : TypeId) (parts : Array (Nat × Operand)) (ho : o.op = .build t parts) (X : Array Value)
    (hf : P.built t (parts.map fun (i, x) => (i, a.eval x)).toList = some X) (hk : K (a.put o.dst (.agg X)) w) : if Region.wanted o (yielded ops a.tmps) = true then Oper.wp P o a w K Q else E := by
  refine step_run hw (v := .agg X) (w' := w) ?_ hk
  have h := run_build (P := P) w t (parts.map fun (i, x) => (i, a.eval x)) X hf
  unfold execOp
  simp only [ho, Sem.run_bind, Sem.run_pure, h, Result.andThen_ok]
theorem step_store_mid {P : Program} {ops : Array Oper} {o : Oper} {a : Act} {w : World} {K : Act → World → Prop} {Q : Exit → Act → World → Prop} {E : Prop} (hw : Region.wanted o (yielded ops a.tmps) = true) (ty : TypeId) (x y : Operand) (ho : o.op = .store ty x y) (g off : Nat) (hx : a.eval x = .pointer (some ⟨g, off, none⟩)) (vs : Array Value) (hy : a.eval y = .agg vs)
    (t : TypeId) (cs : Array Value) (hb : Bk w g t cs) (hi : (P.info? ty).map (·.size) = some vs.size) (hl : off + vs.size ≤ cs.size) (h1 : ∀ v ∈ vs.toList, v.oneCell' = true)
    (hk : K (a.put o.dst undef) (w.setRow g (cs.toList.take off ++ vs.toList ++ cs.toList.drop (off + vs.toList.length)).toArray)) : if Region.wanted o (yielded ops a.tmps) = true then Oper.wp P o a w K Q else E := by
  refine step_skip hw (w' := w.setRow g (cs.toList.take off ++ vs.toList ++ cs.toList.drop (off + vs.toList.length)).toArray) ?_ hk
  have h := run_storeVar_mid hb ty off vs hi hl h1
  unfold execOp
  simp only [ho, hx, hy, Instr.storeAt, Instr.sureAddr, Sem.run_bind, Sem.run_pure, Result.andThen_ok, h]
/-- A block of sectors with another one in a place. -/
theorem sec_set {S : List (List UInt8)} (hS : ∀ D ∈ S, D.length = 64) (k : Nat) (hk : k < S.length) (D : List UInt8) (hD : D.length = 64) :
    ((flatC rowOf S).toArray.toList.take (k * 64) ++ (rowOf D).toList ++ (flatC rowOf S).toArray.toList.drop (k * 64 + (rowOf D).toList.length)).toArray = (flatC rowOf (S.set k D)).toArray := by
  rw [← flatC_set S k D hk (m := 64) (fun y hy => by rw [rowOf_size]; exact hS y hy) (by rw [rowOf_size]; exact hD)]
theorem sec_size {S : List (List UInt8)} (hS : ∀ D ∈ S, D.length = 64) (k : Nat) (hk : k < S.length) (D : List UInt8) (hD : D.length = 64) : k * 64 + (rowOf D).size ≤ (flatC rowOf S).toArray.size := by
  rw [rowOf_size, hD, List.size_toArray, flatC_len S (m := 64) (fun y hy => by rw [rowOf_size]; exact hS y hy)]
  omega
theorem sec_at {S : List (List UInt8)} (hS : ∀ D ∈ S, D.length = 64) (k : Nat) (hk : k < S.length) : ∀ j, j < (rowOf (S.getD k [])).size → (flatC rowOf S).toArray[k * 64 + j]? = (rowOf (S.getD k []))[j]? := fun j hj => by
  have h64 := getD_mem64 hS k hk
  rw [rowOf_size, h64] at hj
  have e : S.getD k [] = S[k] := by simp [List.getD, hk]
  rw [List.getElem?_toArray, flatC_at _ k j hk (fun x hx => by rw [rowOf_size]; exact hS x hx) hj, e]
/-- What Write's line leaves. -/
def WrR (p q n k r : Nat) (A : Option Addr) (c : Nat) (S D : List UInt8) : Nat → Value → Prop
  | 0, v => v = .pointer (some ⟨p, 0, none⟩)
  | 1, v => v = .pointer (some ⟨p, 0, none⟩)
  | 2, v => v = .pointer (some ⟨p, 0, none⟩)
  | 3, v => v = .pointer (some ⟨p, 1, none⟩)
  | 4, v => v = .slice A r c
  | 5, v => v = .int .i64 (k : Int)
  | 6, v => v = .pointer (some ⟨p, 0, none⟩)
  | 7, v => v = .pointer (some ⟨p, 0, none⟩)
  | 8, v => v = .pointer (some ⟨p, 0, none⟩)
  | 9, v => v = .slice (some ⟨q, 0, none⟩) n n
  | 10, v => v = .int .i64 (k : Int)
  | 11, v => v = .pointer (some ⟨q, k * 64, none⟩)
  | 12, v => v = .agg (rowOf S)
  | 13, v => v = .agg (rowOf D)
  | 14, v => v = .agg (wrR (k, S, D))
  | 17, v => v = .pointer (some ⟨p, 0, none⟩)
  | 18, v => v = .pointer (some ⟨p, 1, none⟩)
  | _, _ => True
def WsR (p q n k : Nat) (D : List UInt8) : Nat → Value → Prop
  | 0, v => v = .pointer (some ⟨p, 0, none⟩)
  | 1, v => v = .pointer (some ⟨p, 0, none⟩)
  | 2, v => v = .pointer (some ⟨p, 0, none⟩)
  | 3, v => v = .slice (some ⟨q, 0, none⟩) n n
  | 4, v => v = .int .i64 (k : Int)
  | 5, v => v = .agg (rowOf D)
  | 6, v => v = .pointer (some ⟨q, k * 64, none⟩)
  | _, _ => True
def dpsW : Nat → List Nat
  | 2 => [1]
  | 3 => [2]
  | 4 => [3]
  | 7 => [6]
  | 8 => [7]
  | 9 => [8]
  | 11 => [9, 10]
  | 12 => [11]
  | 14 => [5, 12, 13]
  | 15 => [14]
  | 16 => [4, 15]
  | 17 => [0]
  | 18 => [17]
  | 19 => [18, 16]
  | _ => []
def dpsV : Nat → List Nat
  | 1 => [0]
  | 2 => [1]
  | 3 => [2]
  | 6 => [3, 4]
  | 7 => [6, 5]
  | _ => []

/-- The disk with a write appended whose sector isn't there yet. -/
structure Mid (b0 : Nat) (w1 : World) (p q n : Nat) (F : List (List UInt8)) (R : List WrV) (x : WrV) (fu : Nat) (off : Bool) (g0 : Nat) (W : World) : Prop where
  lo : ∃ v, Bk W p 67 #[.slice (some ⟨q, 0, none⟩) n n, v, .int .i64 (fu : Int), .bool off] ∧ W.ownsRow b0 86 129 v (R.length + 1) (flatC wrR (wasL F (R ++ [x])))
  bq : Bk W q 58 (flatC rowOf (appl F R)).toArray
  bg : Bk W g0 58 (rowOf x.2)
  be : Below b0 w1 W
  un : UnT dkT w1 W
section
variable {b0 : Nat} {w w1 : World} {p q n : Nat} {F : List (List UInt8)} {R : List WrV} {fu : Nat} {off : Bool}
theorem Mid.drew {x : WrV} {g0 : Nat} {W : World} (m : Mid b0 w1 p q n F R x fu off g0 W) : Mid b0 w1 p q n F R x fu off g0 { W with drawn := W.drawn + 1 } :=
  ⟨m.lo, m.bq, m.bg, ⟨m.be.os, m.be.tape, m.be.output, m.be.size, m.be.block⟩, m.un⟩
/-- The disk behind a write. -/
theorem Mid.whole {v : Value} {x : WrV} {g0 : Nat} {W : World} (h : DkV b0 w1 p q n F R v fu off) (m : Mid b0 w1 p q n F R x fu off g0 W) (hw1 : b0 ≤ w1.heap.size) (hx : x.1 < n) (h64 : x.2.length = 64) :
    DkI b0 (W.setRow q (flatC rowOf ((appl F R).set x.1 x.2)).toArray) p q n F (R ++ [x]) fu off ∧ Below b0 w1 (W.setRow q (flatC rowOf ((appl F R).set x.1 x.2)).toArray) ∧ UnT dkT w1 (W.setRow q (flatC rowOf ((appl F R).set x.1 x.2)).toArray) := by
  obtain ⟨v', k1, k2⟩ := m.lo
  have hg := setRow_grown W q (flatC rowOf ((appl F R).set x.1 x.2)).toArray
  have hu : UnT dkT W (W.setRow q (flatC rowOf ((appl F R).set x.1 x.2)).toArray) := UnT.of_grown hg fun k e => by
    injection e with e
    subst e
    exact ⟨_, _, _, m.bq, by simp [dkT]⟩
  refine ⟨⟨v', h.hp, h.hq, h.n1, h.n2, h.hF, h.F64, fun y hy => ?_, h.hfu, k1.rowfar (k1.neT m.bq (by decide)) _, ?_, ?_⟩, m.be.grown hg (Nat.le_trans hw1 m.be.size) (fun k e => by injection e with e; subst e; exact h.hq), m.un.trans hu⟩
  · rcases List.mem_append.1 hy with h1 | h1
    · exact h.hR y h1
    · simp at h1
      subst h1
      exact ⟨hx, h64⟩
  · rw [List.length_append]
    exact ownsRow_heapk k2 fun g e => setRow_other W q g _ fun e2 => by
      subst e2
      exact m.bq.neRow k2 (by decide) e.symm
  · rw [appl_snoc]
    exact m.bq.rowed _
/-- What the append's store leaves. -/
theorem mid_of {b0 : Nat} {w1 W0 W : World} {p q n g0 r k fu : Nat} {F : List (List UInt8)} {R : List WrV} {S D : List UInt8} {C : Array Value} {off : Bool} {A A2 : Option Addr} {c c2 : Nat} (hp : b0 ≤ p) (hS : (appl F R).getD k [] = S) (hC : (flatC rowOf (appl F R)).toArray = C) (hr : R.length = r)
    (be : Below w1.heap.size w1 W0) (hw1 : b0 ≤ w1.heap.size) (lo : W0.ownsRow b0 86 129 (.slice A R.length c) R.length (flatC wrR (wasL F R)))
    (o1 : Bk W p 67 #[.slice (some ⟨q, 0, none⟩) n n, .slice A r c, .int .i64 (fu : Int), .bool off]) (o2 : Bk W q 58 C) (o3 : Bk W g0 58 (rowOf D))
    (c3 : W.ownsRow b0 86 129 (.slice A2 (r + 1) c2) (r + 1) (flatC wrR (wasL F R ++ [(k, S, D)]))) (c4 : (W0.alloc (.cells (wrR (k, S, D)) 86)).grownBy W (Value.slice A r c).ownBlock) :
    Mid b0 w1 p q n F R (k, D) fu off g0 (W.setCell ⟨p, 1, none⟩ (.slice A2 (r + 1) c2)) := by
  subst hr hS hC
  have hpq : q ≠ p := o2.neT o1 (by decide)
  have hpg : g0 ≠ p := o3.neT o1 (by decide)
  have hb1 : Below w1.heap.size w1 (W0.alloc (.cells (wrR (k, (appl F R).getD k [], D)) 86)) := be.trans (((Below.refl _ _).alloc (Nat.le_refl _) _).mono be.size)
  have hrow := World.ownsRow.alloc lo (.cells (wrR (k, (appl F R).getD k [], D)) 86)
  have hty := ownsRow_ty hrow
  have u1 : UnT dkT w1 W := (UnT.of_below hb1).trans (UnT.of_grown c4 fun g e => by
    obtain ⟨_, _, cs, hh⟩ := hty g e
    exact ⟨cs, _, _, hh, by simp [dkT]⟩)
  have b1 : Below b0 w1 W := (hb1.mono hw1).grown c4 (Nat.le_trans hw1 hb1.size) fun g e => (hty g e).1
  obtain ⟨p1, p2⟩ := Bk.putD (b0 := b0) (T := dkT) o1 hp (by simp [dkT]) 1 (.slice A2 (R.length + 1) c2)
  refine ⟨⟨_, o1.set_ 1 _, ?_⟩, o2.far (p := ⟨p, 1, none⟩) hpq _, o3.far (p := ⟨p, 1, none⟩) hpg _, b1.trans p1, u1.trans p2⟩
  rw [wasL_snoc]
  exact ownsRow_heapk c3 fun g e => Below.heap_setCell W ⟨p, 1, none⟩ _ g fun e2 => by
    have e3 : g = p := e2
    subst e3
    exact o1.neRow c3 (by decide) e.symm
set_option maxRecDepth 100000 in
set_option maxHeartbeats 1000000 in
theorem dwrite_no (h : DkI b0 w p q n F R fu off) (z : Int) (D : List UInt8) (hE : hasE n off z ≠ 0) : Calls Try.prog 28 #[.pointer (some ⟨p, 0, none⟩), .int .i64 z, .agg (rowOf D)] w fun e w' => e = .returned (.int .i64 (hasE n off z)) ∧ Below w.heap.size w w' := by
  obtain ⟨w1, hw1⟩ : ∃ W, w.alloc (.cells (rowOf D) 58) = W := ⟨_, rfl⟩
  have b1 : Below w.heap.size w w1 := by rw [← hw1]; exact (Below.refl _ _).alloc (Nat.le_refl _) _
  have ci := dhas_any (h.below b1) z
  have B1 := hidD_ b1
  generalize hasE n off z = er at ci hE ⊢
  have d0 : (er == 0) = false := by simpa using hE
  clear h b1 hE
  go_enter Try.func28, Try.ntmps28
  go_wp2_with (go_at_call 47; ((with_reducible refine ci.mono ?_); clear ci; rintro e w' ⟨rfl, rfl⟩))
  go_ret
  exact ⟨rfl, B1.out⟩
set_option maxRecDepth 100000 in
set_option maxHeartbeats 1000000 in
theorem dwrite_nil (w : World) (z : Int) (D : List UInt8) : Calls Try.prog 28 #[.pointer none, .int .i64 z, .agg (rowOf D)] w fun e w' => e = .returned (.int .i64 1) ∧ Below w.heap.size w w' := by
  obtain ⟨w1, hw1⟩ : ∃ W, w.alloc (.cells (rowOf D) 58) = W := ⟨_, rfl⟩
  have b1 : Below w.heap.size w w1 := by rw [← hw1]; exact (Below.refl _ _).alloc (Nat.le_refl _) _
  have ci := dhas_nil w1 z
  have B1 := hidD_ b1
  clear b1
  go_enter Try.func28, Try.ntmps28
  go_wp2_with (go_at_call 47; ((with_reducible refine ci.mono ?_); clear ci; rintro e w' ⟨rfl, rfl⟩))
  go_ret
  exact ⟨rfl, B1.out⟩
theorem has_ok {z : Int} (h : hasE n off z = 0) : off = false ∧ 0 ≤ z ∧ z < (n : Int) := by
  unfold hasE at h
  cases off
  · rw [if_neg (by decide)] at h
    split at h
    · cases h
    · exact ⟨rfl, by omega, by omega⟩
  · rw [if_pos rfl] at h
    cases h
theorem hasE_ok (n k : Nat) (hk : k < n) : hasE n false (k : Int) = 0 := by
  unfold hasE
  rw [if_neg (by decide), if_neg (by omega)]
set_option maxRecDepth 100000 in
set_option maxHeartbeats 8000000 in
theorem dwrite_yes (h : DkI b0 w p q n F R fu false) (hb0 : b0 ≤ w.heap.size) (k : Nat) (hk : k < n) (D : List UInt8) (hD : D.length = 64) (hr6 : R.length + 1 ≤ 1000000) :
    Calls Try.prog 28 #[.pointer (some ⟨p, 0, none⟩), .int .i64 (k : Int), .agg (rowOf D)] w (DkP b0 w p q n F (R ++ [(k, D)]) (fu - 1) (burnO fu false) (burnE fu)) := by
  obtain ⟨g0, hg0⟩ : ∃ g, w.heap.size = g := ⟨_, rfl⟩
  obtain ⟨w1, hw1⟩ : ∃ W, w.alloc (.cells (rowOf D) 58) = W := ⟨_, rfl⟩
  have b1 : Below w.heap.size w w1 := by rw [← hw1]; exact (Below.refl _ _).alloc (Nat.le_refl _) _
  have h1 := h.below b1
  have ci := dhas_any h1 (k : Int)
  rw [hasE_ok n k hk] at ci
  obtain ⟨v, hv⟩ := h1
  obtain ⟨A, c, rfl⟩ := hv.form
  have BG : Bk w1 g0 58 (rowOf D) := by rw [← hw1, ← hg0]; exact Bk.new w _ _
  have hkS : k < (appl F R).length := by rw [appl_len, hv.hF]; exact hk
  have HV := hidD_ hv
  have HI := hidD_ (iSec D hD)
  have HIS := hidD_ (iSec ((appl F R).getD k []) (getD_mem64 hv.app64 k hkS))
  have HAT := hidD_ (sec_at hv.app64 k hkS)
  have HS64 := hidD_ (getD_mem64 hv.app64 k hkS)
  have HSET := hidD_ (sec_set hv.app64 k hkS D hD)
  have HSZ := hidD_ (sec_size hv.app64 k hkS D hD)
  have HB1 := hidD_ b1
  have HB0 := hidD_ hb0
  have HW1 := hidD_ (show b0 ≤ w1.heap.size from Nat.le_trans hb0 b1.size)
  have HR6 := hidD_ hr6
  have HD := hidD_ hD
  have HK := hidD_ hk
  have t0 : (0 : Int) ≤ (k : Int) := by omega
  have tn : (k : Int) < (n : Int) := by omega
  obtain ⟨S, hS⟩ : ∃ S, (appl F R).getD k [] = S := ⟨_, rfl⟩
  obtain ⟨C, hC⟩ : ∃ C, (flatC rowOf (appl F R)).toArray = C := ⟨_, rfl⟩
  rw [hS] at HIS HAT HS64
  rw [hC] at HAT HSET HSZ
  have OLD := hidD_ (show Bk w1 p 67 #[.slice (some ⟨q, 0, none⟩) n n, .slice A R.length c, .int .i64 (fu : Int), .bool false] ∧ Bk w1 q 58 C ∧ Bk w1 g0 58 (rowOf D) from ⟨hv.bp, by rw [← hC]; exact hv.bq, BG⟩)
  have HC := hidD_ hC
  have HSS := hidD_ hS
  have LO := hidD_ hv.lo
  obtain ⟨r, hr⟩ : ∃ r, R.length = r := ⟨_, rfl⟩
  rw [hr] at OLD
  have HR := hidD_ hr
  clear h hv hb0 b1 hr6 hD hkS hC hS hr BG
  go_enter Try.func28, Try.ntmps28
  go_upto_region 4 with (go_at_call 47; ((with_reducible refine ci.mono ?_); clear ci; rintro e w' ⟨rfl, rfl⟩))
  obtain ⟨W0, hW0⟩ : ∃ W0, { w1 with drawn := w1.drawn + 1 } = W0 := ⟨_, rfl⟩
  have OLD0 := hidD_ (show Bk W0 p 67 #[.slice (some ⟨q, 0, none⟩) n n, .slice A r c, .int .i64 (fu : Int), .bool false] ∧ Bk W0 q 58 C ∧ Bk W0 g0 58 (rowOf D) by rw [← hW0]; exact OLD.out)
  have LO0 := hidD_ (show W0.ownsRow b0 86 129 (.slice A R.length c) R.length (flatC wrR (wasL F R)) by rw [← hW0]; exact LO.out)
  have BE0 := hidD_ (show Below w1.heap.size w1 W0 by rw [← hW0]; exact (Below.refl _ _).drew)
  refine region_byJF [14, 15, 16, 17, 18, 19, 20, 21, 22, 23, 24, 25, 26, 27, 28, 29, 30, 31, 32] (fun _ => True) (fun _ _ => True) (fun jj v _ => WrR p q n k r A c S D jj v) (fun D2 a W => ApP dpsW 15 29 16 30 19 W0 (fun W => Bk W p 67 #[.slice (some ⟨q, 0, none⟩) n n, .slice A r c, .int .i64 (fu : Int), .bool false] ∧ Bk W q 58 C ∧ Bk W g0 58 (rowOf D)) (fun v W => v = .slice (some ⟨W0.heap.size, 0, none⟩) 1 1 ∧ W = W0.alloc (.cells (wrR (k, S, D)) 86)) (fun v W => ∃ A2 c2, v = .slice A2 (r + 1) c2 ∧ W.ownsRow b0 86 129 (.slice A2 (r + 1) c2) (r + 1) (flatC wrR (wasL F R ++ [(k, S, D)])) ∧ (W0.alloc (.cells (wrR (k, S, D)) 86)).grownBy W (Value.slice A r c).ownBlock) (fun W => Mid b0 w1 p q n F R (k, D) fu false g0 W) D2 a W) (by kernel_rfl) (by kernel_rfl) (by kernel_rfl) (by kernel_rfl) (fun j v w w' hT hr => ?_) (fun j v w hlt hj _ => ?_) trivial ?_ (by rw [hW0]; exact ApP.start OLD0.out) ?_
  · exact hr
  · rcases j with _ | _ | _ | _ | _ | _ | _ | _ | _ | _ | _ | _ | _ | _ | _ | _ | _ | _ | _ | _ | j
    all_goals first
      | (exfalso; simp [dstOf] at hj; done)
      | trivial
  · refine ⟨fun D2 a W hC hd hsz hf hv hJ hL hW K hK => ?_, fun D2 a W hC hd hsz hf hv hJ hL hW K hK => ?_, fun D2 a W hC hd hsz hf hv hJ hL hW K hK => ?_, fun D2 a W hC hd hsz hf hv hJ hL hW K hK => ?_, fun D2 a W hC hd hsz hf hv hJ hL hW K hK => ?_, fun D2 a W hC hd hsz hf hv hJ hL hW K hK => ?_, fun D2 a W hC hd hsz hf hv hJ hL hW K hK => ?_, fun D2 a W hC hd hsz hf hv hJ hL hW K hK => ?_, fun D2 a W hC hd hsz hf hv hJ hL hW K hK => ?_, fun D2 a W hC hd hsz hf hv hJ hL hW K hK => ?_, fun D2 a W hC hd hsz hf hv hJ hL hW K hK => ?_, fun D2 a W hC hd hsz hf hv hJ hL hW K hK => ?_, fun D2 a W hC hd hsz hf hv hJ hL hW K hK => ?_, fun D2 a W hC hd hsz hf hv hJ hL hW K hK => ?_, fun D2 a W hC hd hsz hf hv hJ hL hW K hK => ?_, fun D2 a W hC hd hsz hf hv hJ hL hW K hK => ?_, fun D2 a W hC hd hsz hf hv hJ hL hW K hK => ?_, fun D2 a W hC hd hsz hf hv hJ hL hW K hK => ?_, fun D2 a W hC hd hsz hf hv hJ hL hW K hK => ?_, fun D2 a W hC hd hsz hf hv hJ hL hW K hK => ?_, trivial⟩
    · clear hsz
      have e1 := slot_of (a := a) (s := 0) (v := .pointer (some ⟨p, 0, none⟩)) (hf 0 (by kernel_rfl))
      refine step_run (wanted_none rfl) (v := .pointer (some ⟨p, 0, none⟩)) (w' := W) ?_ (hK _ _ trivial trivial rfl (hJ.same 0 _ _ (by decide) (by decide) ls0))
      go_simp
    · clear hsz
      have e1 := slot_of (a := a) (s := 0) (v := .pointer (some ⟨p, 0, none⟩)) (hf 0 (by kernel_rfl))
      refine step_run (wanted_none rfl) (v := .pointer (some ⟨p, 0, none⟩)) (w' := W) ?_ (hK _ _ trivial trivial rfl (hJ.same 1 _ _ (by decide) (by decide) ls0))
      go_simp
    · clear hsz
      have e1 := slot_of (a := a) (s := 15) (v := .pointer (some ⟨p, 0, none⟩)) (hv 1 (by kernel_rfl))
      refine step_run (wanted_none rfl) (v := .pointer (some ⟨p, 0, none⟩)) (w' := W) ?_ (hK _ _ trivial trivial rfl (hJ.same 2 _ _ (by decide) (by decide) (ls1 (hW 1 (by kernel_rfl)))))
      go_simp
    · clear hsz
      have e1 := slot_of (a := a) (s := 16) (v := .pointer (some ⟨p, 0, none⟩)) (hv 2 (by kernel_rfl))
      refine step_run (wanted_none rfl) (v := .pointer (some ⟨p, 1, none⟩)) (w' := W) ?_ (hK _ _ trivial trivial rfl (hJ.same 3 _ _ (by decide) (by decide) (ls1 (hW 2 (by kernel_rfl)))))
      go_simp
    · clear hsz
      have e1 := slot_of (a := a) (s := 17) (v := .pointer (some ⟨p, 1, none⟩)) (hv 3 (by kernel_rfl))
      obtain ⟨o1, o2, o3⟩ := hJ.get 4 [16, 19] rfl rfl hL
      have cc := o1.cell 1
      simp only [List.getElem?_toArray, List.getElem?_cons_zero, List.getElem?_cons_succ] at cc
      refine step_run (wanted_none rfl) (v := .slice A r c) (w' := W) ?_ (hK _ _ trivial trivial rfl (hJ.same 4 _ _ (by decide) (by decide) (ls1 (hW 3 (by kernel_rfl)))))
      go_simp
    · clear hsz
      have e1 := slot_of (a := a) (s := 1) (v := .int .i64 (k : Int)) (hf 1 (by kernel_rfl))
      refine step_run (wanted_none rfl) (v := .int .i64 (k : Int)) (w' := W) ?_ (hK _ _ trivial trivial rfl (hJ.same 5 _ _ (by decide) (by decide) ls0))
      go_simp
    · clear hsz
      have e1 := slot_of (a := a) (s := 0) (v := .pointer (some ⟨p, 0, none⟩)) (hf 0 (by kernel_rfl))
      refine step_run (wanted_none rfl) (v := .pointer (some ⟨p, 0, none⟩)) (w' := W) ?_ (hK _ _ trivial trivial rfl (hJ.same 6 _ _ (by decide) (by decide) ls0))
      go_simp
    · clear hsz
      have e1 := slot_of (a := a) (s := 20) (v := .pointer (some ⟨p, 0, none⟩)) (hv 6 (by kernel_rfl))
      refine step_run (wanted_none rfl) (v := .pointer (some ⟨p, 0, none⟩)) (w' := W) ?_ (hK _ _ trivial trivial rfl (hJ.same 7 _ _ (by decide) (by decide) (ls1 (hW 6 (by kernel_rfl)))))
      go_simp
    · clear hsz
      have e1 := slot_of (a := a) (s := 21) (v := .pointer (some ⟨p, 0, none⟩)) (hv 7 (by kernel_rfl))
      refine step_run (wanted_none rfl) (v := .pointer (some ⟨p, 0, none⟩)) (w' := W) ?_ (hK _ _ trivial trivial rfl (hJ.same 8 _ _ (by decide) (by decide) (ls1 (hW 7 (by kernel_rfl)))))
      go_simp
    · clear hsz
      have e1 := slot_of (a := a) (s := 22) (v := .pointer (some ⟨p, 0, none⟩)) (hv 8 (by kernel_rfl))
      obtain ⟨o1, o2, o3⟩ := hJ.get 9 [11, 12, 14, 15, 16, 19] rfl rfl hL
      have cc := o1.cell 0
      simp only [List.getElem?_toArray, List.getElem?_cons_zero, List.getElem?_cons_succ] at cc
      refine step_run (wanted_none rfl) (v := .slice (some ⟨q, 0, none⟩) n n) (w' := W) ?_ (hK _ _ trivial trivial rfl (hJ.same 9 _ _ (by decide) (by decide) (ls1 (hW 8 (by kernel_rfl)))))
      go_simp
    · clear hsz
      have e1 := slot_of (a := a) (s := 1) (v := .int .i64 (k : Int)) (hf 1 (by kernel_rfl))
      refine step_run (wanted_none rfl) (v := .int .i64 (k : Int)) (w' := W) ?_ (hK _ _ trivial trivial rfl (hJ.same 10 _ _ (by decide) (by decide) ls0))
      go_simp
    · clear hsz
      have e1 := slot_of (a := a) (s := 23) (v := .slice (some ⟨q, 0, none⟩) n n) (hv 9 (by kernel_rfl))
      have e2 := slot_of (a := a) (s := 24) (v := .int .i64 (k : Int)) (hv 10 (by kernel_rfl))
      refine step_run (wanted_none rfl) (v := .pointer (some ⟨q, k * 64, none⟩)) (w' := W) ?_ (hK _ _ trivial trivial rfl (hJ.same 11 _ _ (by decide) (by decide) (ls2 (hW 9 (by kernel_rfl)) (hW 10 (by kernel_rfl)))))
      go_simp
    · clear hsz
      obtain ⟨o1, o2, o3⟩ := hJ.get 12 [14, 15, 16, 19] rfl rfl hL
      refine step_load_sub (wanted_none rfl) 58 (.tmp 25) rfl q (k * 64) (eval_of (hv 11 (by kernel_rfl))) (rowOf S) (fun j hj => (o2.cell _).trans (HAT.out j hj)) _ Try.underlying58 rfl HIS.out ?_
      exact hK _ _ trivial trivial rfl (hJ.same 12 _ _ (by decide) (by decide) (ls1 (hW 11 (by kernel_rfl))))
    · clear hsz
      obtain ⟨o1, o2, o3⟩ := hJ.get 13 [14, 15, 16, 19] rfl rfl hL
      refine step_load_row rfl 58 (.tmp 5) rfl g0 (eval_of (hf 5 (by kernel_rfl))) 58 (rowOf D) o3 _ Try.underlying58 rfl HI.out ?_
      exact hK _ _ trivial trivial rfl (hJ.same 13 _ _ (by decide) (by decide) ls0)
    · clear hsz
      have e1 := eval_of (a := a) (s := 19) (v := .int .i64 (k : Int)) (hv 5 (by kernel_rfl))
      have e2 := eval_of (a := a) (s := 26) (v := .agg (rowOf S)) (hv 12 (by kernel_rfl))
      have e3 := eval_of (a := a) (s := 27) (v := .agg (rowOf D)) (hv 13 (by kernel_rfl))
      refine step_built (wanted_none rfl) 86 #[(0, .tmp 19), (1, .tmp 26), (2, .tmp 27)] rfl (wrR (k, S, D)) ?_ ?_
      · simp only [List.map_toArray, List.map_cons, List.map_nil, e1, e2, e3]
        exact built_wr k S D HS64.out HD.out
      · exact hK _ _ trivial trivial rfl (hJ.same 14 _ _ (by decide) (by decide) (ls3 (hW 5 (by kernel_rfl)) (hW 12 (by kernel_rfl)) (hW 13 (by kernel_rfl))))
    · have e1 := eval_of (a := a) (s := 28) (v := .agg (wrR (k, S, D))) (hv 14 (by kernel_rfl))
      rw [hJ.z hL]
      obtain ⟨o1, o2, o3⟩ := OLD0.out
      have HLT : 29 < a.tmps.size := (by rw [hsz]; simp)
      clear hsz
      refine step_run (wanted_none rfl) (v := .slice (some ⟨W0.heap.size, 0, none⟩) 1 1) (w' := W0.alloc (.cells (wrR (k, S, D)) 86)) ?_ (hK _ _ trivial trivial trivial (hJ.lay _ hL (by decide) (ls1 (hW 14 (by kernel_rfl))) rfl rfl HLT ⟨o1.alloc _, o2.alloc _, o3.alloc _⟩ ⟨rfl, rfl⟩))
      unfold execOp
      simp only [Sem.run_bind, Sem.run_pure, List.map_toArray, List.map_cons, List.map_nil, e1, run_oneW W0 (k, S, D) HS64.out HD.out, Result.andThen_ok]
    · obtain ⟨b1, b2⟩ := hJ.b (hW 15 (by kernel_rfl)) hL
      obtain ⟨o1, o2, o3⟩ := hJ.get 16 [19] rfl rfl hL
      subst b2
      have e1 := eval_of (a := a) (s := 18) (v := .slice A r c) (hv 4 (by kernel_rfl))
      have e2 := eval_of b1
      have HLT : 30 < a.tmps.size := (by rw [hsz]; simp)
      clear hsz
      have hrow := (World.ownsRow.alloc LO0.out (.cells (wrR (k, S, D)) 86))
      rw [← wasL_len R F] at hrow
      obtain ⟨A2, c2, W2, hrun, k1, k2⟩ := run_appW hrow (k, S, D) HS64.out HD.out W0.heap.size (Bk.new W0 _ _) 65 1 (by rw [wasL_len]; exact HR6.out) (by have := HW1.out; have := BE0.out.size; simp; omega)
      rw [wasL_len, HR.out] at hrun k1 k2
      rw [if_pos (wanted_none rfl)]
      unfold Oper.wp execOp
      simp only [resolve, invoke, builtin, Sem.run_bind, Sem.run_pure, Result.andThen_ok, List.map_toArray, List.map_cons, List.map_nil, e1, e2, hrun]
      have hne : ∀ {g : Nat} {t : TypeId} {cs : Array Value}, Bk (W0.alloc (.cells (wrR (k, S, D)) 86)) g t cs → t ≠ 86 → some g ≠ (Value.slice A r c).ownBlock := fun hb ht => by rw [wasL_len, HR.out] at hrow; exact hb.neRow hrow ht
      exact hK _ _ trivial trivial trivial (hJ.app _ hL (by decide) (ls2 (hW 4 (by kernel_rfl)) (hW 15 (by kernel_rfl))) (hW 15 (by kernel_rfl)) rfl HLT ⟨o1.grown k2 (hne o1 (by decide)), o2.grown k2 (hne o2 (by decide)), o3.grown k2 (hne o3 (by decide))⟩ ⟨A2, c2, rfl, k1, k2⟩)
    · clear hsz
      have e1 := slot_of (a := a) (s := 14) (v := .pointer (some ⟨p, 0, none⟩)) (hv 0 (by kernel_rfl))
      refine step_run (wanted_none rfl) (v := .pointer (some ⟨p, 0, none⟩)) (w' := W) ?_ (hK _ _ trivial trivial rfl (hJ.same 17 _ _ (by decide) (by decide) (ls1 (hW 0 (by kernel_rfl)))))
      go_simp
    · clear hsz
      have e1 := slot_of (a := a) (s := 31) (v := .pointer (some ⟨p, 0, none⟩)) (hv 17 (by kernel_rfl))
      refine step_run (wanted_none rfl) (v := .pointer (some ⟨p, 1, none⟩)) (w' := W) ?_ (hK _ _ trivial trivial rfl (hJ.same 18 _ _ (by decide) (by decide) (ls1 (hW 17 (by kernel_rfl)))))
      go_simp
    · clear hsz
      obtain ⟨A2, c2, c1, c3, c4⟩ := hJ.c (hW 16 (by kernel_rfl)) hL
      obtain ⟨o1, o2, o3⟩ := hJ.old hL
      have e1 := slot_of (a := a) (s := 32) (v := .pointer (some ⟨p, 1, none⟩)) (hv 18 (by kernel_rfl))
      have e2 := slot_of c1
      have cc := o1.cell 1
      have cf := o1.frozen 1
      simp only [List.getElem?_toArray, List.getElem?_cons_zero, List.getElem?_cons_succ] at cc
      have hib : D2 15 = true := hJ.cl 16 (hW 16 (by kernel_rfl)) 15 (by simp [dpsW])
      refine step_skip (wanted_none rfl) (w' := W.setCell ⟨p, 1, none⟩ (.slice A2 (r + 1) c2)) ?_ (hK undef _ trivial trivial trivial (hJ.store (by decide) (ls2 (hW 18 (by kernel_rfl)) (hW 16 (by kernel_rfl))) hib (hW 16 (by kernel_rfl)) _ (mid_of HV.out.hp HSS.out HC.out HR.out BE0.out HW1.out LO0.out o1 o2 o3 c3 c4)))
      go_simp
  · intro f wz hC4 hv4 L2 hL2 hJ2
    obtain ⟨aE, hJ, hfr⟩ := hJ2
    have M := hidD_ (hJ.fin (hL2 19 (by decide)))
    simp only [framed, List.foldl_cons, List.foldl_nil, List.setIfInBounds_toArray, List.set_cons_succ, List.set_cons_zero]
    clear hv4 hC4 hJ hfr hL2
    rename_i K hK
    refine hK _ _ ?_
    go_upto_region 5 with fail
    obtain ⟨wm, hwm⟩ : ∃ W, { wz with drawn := wz.drawn + 1 } = W := ⟨_, rfl⟩
    replace M := hidD_ (show Mid b0 w1 p q n F R (k, D) fu false g0 wm by rw [← hwm]; exact M.out.drew)
    obtain ⟨vl, o1', o1''⟩ := M.out.lo
    have o1 := hidD_ o1'
    clear o1' o1''
    refine region_byJF [33, 34, 35, 36, 37, 38, 39] (fun _ => True) (fun _ _ => True) (fun jj v _ => WsR p q n k D jj v) (fun D2 a W => PhJ dpsV 7 (fun W => W = wm) (fun W => W = wm.setRow q (flatC rowOf ((appl F R).set k D)).toArray) D2 a W) (by kernel_rfl) (by kernel_rfl) (by kernel_rfl) (by kernel_rfl) (fun j v w w' hT hr => ?_) (fun j v w hlt hj _ => ?_) trivial ?_ (by rw [hwm]; exact PhJ.start rfl) ?_
    · exact hr
    · rcases j with _ | _ | _ | _ | _ | _ | _ | _ | j
      all_goals first
        | (exfalso; simp [dstOf] at hj; done)
        | trivial
    · refine ⟨fun D2 a W hC hd hsz hf hv hJ hL hW K hK => ?_, fun D2 a W hC hd hsz hf hv hJ hL hW K hK => ?_, fun D2 a W hC hd hsz hf hv hJ hL hW K hK => ?_, fun D2 a W hC hd hsz hf hv hJ hL hW K hK => ?_, fun D2 a W hC hd hsz hf hv hJ hL hW K hK => ?_, fun D2 a W hC hd hsz hf hv hJ hL hW K hK => ?_, fun D2 a W hC hd hsz hf hv hJ hL hW K hK => ?_, fun D2 a W hC hd hsz hf hv hJ hL hW K hK => ?_, trivial⟩
      · clear hsz
        have e1 := slot_of (a := a) (s := 0) (v := .pointer (some ⟨p, 0, none⟩)) (hf 0 (by kernel_rfl))
        refine step_run (wanted_none rfl) (v := .pointer (some ⟨p, 0, none⟩)) (w' := W) ?_ (hK _ _ trivial trivial rfl (hJ.same 0 (by decide) ls0))
        go_simp
      · clear hsz
        have e1 := slot_of (a := a) (s := 33) (v := .pointer (some ⟨p, 0, none⟩)) (hv 0 (by kernel_rfl))
        refine step_run (wanted_none rfl) (v := .pointer (some ⟨p, 0, none⟩)) (w' := W) ?_ (hK _ _ trivial trivial rfl (hJ.same 1 (by decide) (ls1 (hW 0 (by kernel_rfl)))))
        go_simp
      · clear hsz
        have e1 := slot_of (a := a) (s := 34) (v := .pointer (some ⟨p, 0, none⟩)) (hv 1 (by kernel_rfl))
        refine step_run (wanted_none rfl) (v := .pointer (some ⟨p, 0, none⟩)) (w' := W) ?_ (hK _ _ trivial trivial rfl (hJ.same 2 (by decide) (ls1 (hW 1 (by kernel_rfl)))))
        go_simp
      · clear hsz
        have e1 := slot_of (a := a) (s := 35) (v := .pointer (some ⟨p, 0, none⟩)) (hv 2 (by kernel_rfl))
        have hw := hJ.get 3 [6, 7] rfl rfl hL
        subst hw
        have cc := o1.out.cell 0
        simp only [List.getElem?_toArray, List.getElem?_cons_zero, List.getElem?_cons_succ] at cc
        refine step_run (wanted_none rfl) (v := .slice (some ⟨q, 0, none⟩) n n) (w' := W) ?_ (hK _ _ trivial trivial rfl (hJ.same 3 (by decide) (ls1 (hW 2 (by kernel_rfl)))))
        go_simp
      · clear hsz
        have e1 := slot_of (a := a) (s := 1) (v := .int .i64 (k : Int)) (hf 1 (by kernel_rfl))
        refine step_run (wanted_none rfl) (v := .int .i64 (k : Int)) (w' := W) ?_ (hK _ _ trivial trivial rfl (hJ.same 4 (by decide) ls0))
        go_simp
      · clear hsz
        have hw := hJ.get 5 [7] rfl rfl hL
        subst hw
        refine step_load_row rfl 58 (.tmp 5) rfl g0 (eval_of (hf 5 (by kernel_rfl))) 58 (rowOf D) M.out.bg _ Try.underlying58 rfl HI.out ?_
        exact hK _ _ trivial trivial rfl (hJ.same 5 (by decide) ls0)
      · clear hsz
        have e1 := slot_of (a := a) (s := 36) (v := .slice (some ⟨q, 0, none⟩) n n) (hv 3 (by kernel_rfl))
        have e2 := slot_of (a := a) (s := 37) (v := .int .i64 (k : Int)) (hv 4 (by kernel_rfl))
        refine step_run (wanted_none rfl) (v := .pointer (some ⟨q, k * 64, none⟩)) (w' := W) ?_ (hK _ _ trivial trivial rfl (hJ.same 6 (by decide) (ls2 (hW 3 (by kernel_rfl)) (hW 4 (by kernel_rfl)))))
        go_simp
      · clear hsz
        have hw := hJ.old hL
        subst hw
        have bq := M.out.bq
        rw [HC.out] at bq
        refine step_store_mid (wanted_none rfl) 58 (.tmp 39) (.tmp 38) rfl q (k * 64) (eval_of (hv 6 (by kernel_rfl))) (rowOf D) (eval_of (hv 5 (by kernel_rfl))) 58 C bq HI.out HSZ.out (rowOf_ones D) ?_
        rw [HSET.out]
        exact hK undef _ trivial trivial trivial (hJ.store (ls2 (hW 6 (by kernel_rfl)) (hW 5 (by kernel_rfl))) rfl)
    · intro f wy hC5 hv5 L3 hL3 hJ3
      obtain ⟨aE, hJ, hfr⟩ := hJ3
      have e5 := hJ.fin (hL3 7 (by decide))
      subst e5
      have X := Mid.whole HV.out M.out HW1.out HK.out HD.out
      have X1 := hidD_ X
      have cb := dburn_any X.1
      simp only [framed, List.foldl_cons, List.foldl_nil, List.setIfInBounds_toArray, List.set_cons_succ, List.set_cons_zero]
      clear hv5 hC5 hJ hfr hL3 X
      rename_i K hK
      refine hK _ _ ?_
      generalize wm.setRow q (flatC rowOf ((appl F R).set k D)).toArray = wy at *
      go_wp2_with (go_at_call 48; ((with_reducible refine cb.mono ?_); clear cb; rintro e w5 ⟨rfl, y1, y2, y3⟩; have Y1 := hidD_ y1; have Y2 := hidD_ y2; have Y3 := hidD_ y3; clear y1 y2 y3))
      go_ret
      exact ⟨rfl, Y1.out, ((HB1.out.mono HB0.out).trans X1.out.2.1).trans Y2.out, ((UnT.of_below HB1.out).trans X1.out.2.2).trans Y3.out⟩
end
end Go.Proofs.Ytdlciehboimciaa

namespace Go.Proofs.Ytdlciehboimciaa
set_option maxRecDepth 100000
open Go.RowKit
set_option linter.unusedVariables false
set_option linter.unusedSimpArgs false

section
variable {b0 : Nat} {w : World} {p q n : Nat} {F : List (List UInt8)} {R : List WrV} {fu : Nat} {off : Bool}
set_option maxRecDepth 100000 in
set_option maxHeartbeats 1000000 in
theorem dsync_off (h : DkI b0 w p q n F R fu true) : Calls Try.prog 51 #[.pointer (some ⟨p, 0, none⟩)] w fun e w' => e = .returned (.int .i64 9) ∧ w = w' := by
  have ci := powered_any h
  rw [if_pos rfl] at ci
  clear h
  go_enter Try.func51, Try.ntmps51
  go_wp2_with (go_at_call 65; ((with_reducible refine ci.mono ?_); clear ci; rintro e w' ⟨rfl, rfl⟩))
  go_ret
  exact ⟨rfl, rfl⟩
set_option maxRecDepth 100000 in
set_option maxHeartbeats 1000000 in
theorem dsync_nil (w : World) : Calls Try.prog 51 #[.pointer none] w fun e w' => e = .returned (.int .i64 1) ∧ w = w' := by
  have ci := powered_nil w
  go_enter Try.func51, Try.ntmps51
  go_wp2_with (go_at_call 65; ((with_reducible refine ci.mono ?_); clear ci; rintro e w' ⟨rfl, rfl⟩))
  go_ret
  exact ⟨rfl, rfl⟩
set_option maxRecDepth 100000 in
set_option maxHeartbeats 2000000 in
theorem dsync_burn (h : DkI b0 w p q n F R 1 false) : Calls Try.prog 51 #[.pointer (some ⟨p, 0, none⟩)] w (DkP b0 w p q n F R 0 true 9) := by
  have ci := powered_any h
  rw [if_neg (by decide)] at ci
  have cb := dburn_any h
  rw [show burnE 1 = 9 from rfl] at cb
  clear h
  go_enter Try.func51, Try.ntmps51
  go_wp2_with (first
    | (go_at_call 65; ((with_reducible refine ci.mono ?_); clear ci; rintro e w' ⟨rfl, rfl⟩))
    | (go_at_call 48; ((with_reducible refine cb.mono ?_); clear cb; rintro e w' ⟨rfl, h⟩; have H := hidD_ h; clear h)))
  go_ret
  exact ⟨rfl, H.out⟩
set_option maxRecDepth 100000 in
set_option maxHeartbeats 2000000 in
theorem dsync_ok (h : DkI b0 w p q n F R fu false) (hf : fu ≠ 1) : Calls Try.prog 51 #[.pointer (some ⟨p, 0, none⟩)] w (DkP b0 w p q n (appl F R) [] (fu - 1) false 0) := by
  have ci := powered_any h
  rw [if_neg (by decide)] at ci
  have cb := dburn_any h
  rw [show burnE fu = 0 from if_neg hf, show burnO fu false = false by simp [burnO, hf]] at cb
  clear h
  go_enter Try.func51, Try.ntmps51
  go_wp2_with (first
    | (go_at_call 65; ((with_reducible refine ci.mono ?_); clear ci; rintro e w' ⟨rfl, rfl⟩))
    | (go_at_call 48; ((with_reducible refine cb.mono ?_); clear cb; rintro e w' ⟨rfl, ⟨v, h1⟩, h2, h3⟩; have c1 := h1.cells.2.1; have f1 := h1.bp.frozen 1; have H1 := hidD_ h1.sync; have P1 := hidD_ (Bk.putD (T := dkT) h1.bp h1.hp (by simp [dkT]) 1 (.slice none 0 0)); have H2 := hidD_ h2; have H3 := hidD_ h3; clear h1 h2 h3)))
  go_ret
  exact ⟨rfl, ⟨_, H1.out⟩, H2.out.trans P1.out.1, H3.out.trans P1.out.2⟩
end
/-! Image. -/
theorem wpList_appN {ops : Array Oper} {rest : List Oper} {o : Oper} {a : Act} {w : World} {base : Nat} {v : Value} {l : List UInt8} {Q : Exit → Act → World → Prop} (hgd : o.guard = none) (s x : Operand)
    (ho : o.op = .call { callee := .builtin .append, args := #[s, x], argTypes := #[39, 39] })
    (h : Own8 w base v l) (hs : a.eval s = v) {B : Nat} {A : Option Addr} {m : List UInt8} (n c : Nat) (hx : a.eval x = .slice A n c) (hr : Rd w B A m) (hn : m.length = n)
    (nl : Nat) (hnl : l.length = nl) (hsz : nl + n ≤ 140737488355328) (hbase : base ≤ w.heap.size)
    (hK : ∀ A' c' w', Own8 w' base (.slice A' (nl + n) c') (l ++ m) → w.grownBy w' v.ownBlock → wpList Try.prog ops Q rest (a.put o.dst (.slice A' (nl + n) c')) w') : wpList Try.prog ops Q (o :: rest) a w := by
  subst hnl
  exact wpList_app hgd s x ho h hs n c hx hr hn hsz hbase fun A' c' w' h2 h3 _ => hK A' c' w' h2 h3
theorem slice_allS (g : Nat) (W : World) :
    (Instr.sliceAt 58 (.pointer (some ⟨g, 0, none⟩)) none none none).run Try.prog W = .ok (.slice (some ⟨g, 0, none⟩) 64 64) W := by
  have he : Try.prog.elem 58 = 5 := by kernel_rfl
  have hn : Try.prog.arrayLen 58 = 64 := by kernel_rfl
  have ht : Try.prog.underlying 58 = some (.array (Try.prog.arrayLen 58) (Try.prog.elem 58)) := by rw [he, hn]; exact Try.underlying58
  have hs : ∀ W : World, (sizeOf (Try.prog.elem 58)).run Try.prog W = .ok 1 W := fun W => by
    rw [he]
    obtain ⟨i, hi, hz, hsize, hby⟩ := info_parts info8
    simp [sizeOf, typeInfo, hi, hsize]
  rw [run_sliceAt_array_all W 58 ⟨g, 0, none⟩ ht, hs, hn]
  rfl
theorem flat_len {S : List (List UInt8)} (hS : ∀ D ∈ S, D.length = 64) : S.flatten.length = S.length * 64 := by
  induction S with
  | nil => rfl
  | cons D S ih =>
    rw [List.flatten_cons, List.length_append, hS D (by simp), ih (fun E hE => hS E (List.mem_cons_of_mem _ hE)), List.length_cons]
    omega
theorem flat_take {S : List (List UInt8)} (j : Nat) (h : j < S.length) : (S.take (j + 1)).flatten = (S.take j).flatten ++ S.getD j [] := by
  rw [List.take_succ_eq_append_getElem h, List.flatten_append]
  simp [List.getD, h]
section
variable {b0 : Nat} {w : World} {p q n : Nat} {F : List (List UInt8)} {R : List WrV} {fu : Nat} {off : Bool}
set_option maxRecDepth 100000 in
set_option maxHeartbeats 4000000 in
theorem dimage_any (h : DkI b0 w p q n F R fu off) : Calls Try.prog 16 #[.pointer (some ⟨p, 0, none⟩)] w fun e w' => ∃ A c, e = .returned (.slice A (n * 64) c) ∧ Own8 w' w.heap.size (.slice A (n * 64) c) (appl F R).flatten ∧ Below w.heap.size w w' := by
  have ci := made_yes h
  obtain ⟨v, hv⟩ := h
  obtain ⟨c0, _, _, _⟩ := hv.cells
  have HS64 := hidD_ hv.app64
  have HN := hidD_ (show (appl F R).length = n by rw [appl_len]; exact hv.hF)
  have BQ := hidD_ hv.bq
  have hn2 := hv.n2
  clear hv
  generalize appl F R = S at *
  go_enter Try.func16, Try.ntmps16
  go_wp2_with (go_at_call 41; ((with_reducible refine ci.mono ?_); clear ci; rintro e w' ⟨rfl, rfl⟩))
  go_loopw [3, 14] (fun v i wr => ∃ (j nl : Nat) (A' : Option Addr) (c' : Nat), j ≤ n ∧ Hid (nl = j * 64) ∧ i = .int .i64 j ∧ v = .slice A' nl c' ∧ Hid (Own8 wr w.heap.size (.slice A' nl c') (S.take j).flatten) ∧ Hid (Below w.heap.size w wr)) (fun _ i _ => n - (intOf i).toNat)
  case atStart => exact ⟨0, 0, none, 0, Nat.zero_le _, hidD_ rfl, rfl, rfl, Own8.nil_ _ _, Below.refl _ _⟩
  case round =>
    obtain ⟨j, nl, A', c', hj, hnl, rfl, rfl, HV, HBW⟩ := hrel
    by_cases hlt : j < n
    · have hjS : j < S.length := by rw [HN.out]; exact hlt
      have h64 := getD_mem64 HS64.out j hjS
      have HAT := hidD_ (sec_at HS64.out j hjS)
      have HST := hidD_ (flat_take j hjS)
      have HLN := hidD_ (show (S.take j).flatten.length = nl by rw [flat_len (fun D hD => HS64.out D (List.mem_of_mem_take hD)), List.length_take, HN.out, hnl.out]; congr 1; omega)
      generalize S.getD j [] = D at h64 HAT HST
      have HI := hidD_ (iSec D h64)
      have HD := hidD_ h64
      have BQR := hidD_ ((BQ.out).below HBW.out BQ.out.lt)
      obtain ⟨g, hg⟩ : ∃ g, wr.heap.size = g := ⟨_, rfl⟩
      have HG := hidD_ hg
      obtain ⟨wa, hwa⟩ : ∃ W, wr.alloc (.cells (rowOf zsec) 58) = W := ⟨_, rfl⟩
      have KA := hidD_ (show Bk wa g 58 (rowOf zsec) by rw [← hwa, ← hg]; exact Bk.new wr _ _)
      have BA := hidD_ (show Below wr.heap.size wr wa by rw [← hwa]; exact (Below.refl _ _).alloc (Nat.le_refl _) _)
      have hz := zeroSec wr
      have hsl := fun W => slice_allS g W
      have t0 : (0 : Int) ≤ (j : Int) := by omega
      have tn : (j : Int) < (n : Int) := by omega
      have hn8 : n ≤ 8192 := hn2
      have d1 : decide ((j : Int) < (n : Int)) = true := decide_eq_true tn
      clear h64 hjS
      go_wp2_with (first
        | (refine wpList_load_sub rfl 58 (.tmp 16) rfl q (j * 64) rfl (rowOf D) (fun i hi => (BQR.out.cell _).trans (HAT.out i hi)) _ Try.underlying58 rfl HI.out ?_)
        | (refine wpList_put_row rfl 58 (.tmp 5) (.tmp 17) rfl g (rowOf D) rfl rfl 58 (rowOf zsec) KA.out HI.out (by rw [rowOf_size, rowOf_size, HD.out]; rfl) (bytes_one _) ?_; intro w9 k9 g9 s9; have K9 := hidD_ k9; have X9 := hidD_ (BA.out.grown g9 BA.out.size (fun k e => by injection e with e; have := HG.out; omega)); clear k9 g9 s9)
        | (at_builtin; go_loud (refine wpList_appN rfl (.tmp 18) (.tmp 19) rfl (HV.out.below X9.out (Nat.le_refl _)) rfl 64 64 rfl (K9.out.rd K9.out.lt) HD.out nl HLN.out (by have := hnl.out; omega) (Nat.le_trans HBW.out.size X9.out.size) ?_); intro A6 c6 w6 k1 k2; have K1 := hidD_ k1; have K2 := hidD_ ((HBW.out.trans (X9.out.mono HBW.out.size)).grown k2 (Nat.le_trans HBW.out.size X9.out.size) (fun g e => (HV.out.lt g e).1)); clear k1 k2))
      go_roundw
      case rel => exact ⟨j + 1, nl + 64, A6, c6, by omega, hidD_ (by have := hnl.out; omega), by go_num, rfl, hidD_ (by rw [HST.out]; exact K1.out), K2⟩
      case measure => simp [intOf]; omega
    · obtain rfl : j = n := by omega
      have d1 : decide ((j : Int) < (j : Int)) = false := decide_eq_false (by omega)
      have HT := hidD_ (show S.take j = S from List.take_of_length_le (by rw [HN.out]; omega))
      rw [HT.out] at HV
      have hnl2 := hnl.out
      subst hnl2
      go_wp2
      go_ret
      exact ⟨A', c', rfl, HV.out, HBW.out⟩
set_option maxRecDepth 100000 in
set_option maxHeartbeats 1000000 in
theorem dimage_nil (w : World) : Calls Try.prog 16 #[.pointer none] w fun e w' => e = .returned (.slice none 0 0) ∧ w = w' := by
  have ci := made_nil w
  go_enter Try.func16, Try.ntmps16
  go_wp2_with (go_at_call 41; ((with_reducible refine ci.mono ?_); clear ci; rintro e w' ⟨rfl, rfl⟩))
  go_ret
  exact ⟨rfl, rfl⟩
end
end Go.Proofs.Ytdlciehboimciaa
