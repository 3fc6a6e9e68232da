/-
  Merged: Dka Dkb Dkc.
-/
import Derived.Test.YtdlciehboimciaaAm
import Derived.Test.YtdlciehboimciaaFj
import Derived.Test.YtdlciehboimciaaFr
import Derived.Test.YtdlciehboimciaaUn
import Derived.Great.FillDense
import Derived.Great.BuildSlice
import Derived.Maps.AppendAt
import Derived.Test.YtdlciehboimciaaGn
import Derived.LaidEqlPtr
namespace Go.Proofs.Ytdlciehboimciaa
set_option maxRecDepth 100000
open Go.RowKit
set_option linter.unusedVariables false
set_option linter.unusedSimpArgs false

theorem hidD_ {p : Prop} (h : p) : Hid p := h
/-! Rows of rows. -/
def flatC {α : Type} (f : α → Array Value) (l : List α) : List Value := l.flatMap fun x => (f x).toList
section
variable {α : Type} {f : α → Array Value} {m : Nat}
theorem flatC_len : ∀ (l : List α), (∀ x ∈ l, (f x).size = m) → (flatC f l).length = l.length * m
  | [], _ => by simp [flatC]
  | x :: l, h => by
    have ih := flatC_len l (fun y hy => h y (List.mem_cons_of_mem _ hy))
    have e : flatC f (x :: l) = (f x).toList ++ flatC f l := rfl
    have h1 : (f x).toList.length = m := by rw [Array.length_toList, h x (by simp)]
    rw [e, List.length_append, ih, List.length_cons, h1, Nat.add_mul]
    omega
theorem flatC_snoc (l : List α) (x : α) : flatC f (l ++ [x]) = flatC f l ++ (f x).toList := by simp [flatC]
theorem flatC_at : ∀ (l : List α) (k j : Nat) (h : k < l.length), (∀ x ∈ l, (f x).size = m) → j < m → (flatC f l)[k * m + j]? = (f l[k])[j]?
  | [], _, _, h, _, _ => absurd h (by simp)
  | x :: l, 0, j, _, h, hj => by
    have e : flatC f (x :: l) = (f x).toList ++ flatC f l := rfl
    have h1 : (f x).toList.length = m := by rw [Array.length_toList, h x (by simp)]
    rw [e, List.getElem?_append_left (by omega)]
    simp
  | x :: l, k + 1, j, hk, h, hj => by
    have ih := flatC_at l k j (by simpa using hk) (fun y hy => h y (List.mem_cons_of_mem _ hy)) hj
    have e : flatC f (x :: l) = (f x).toList ++ flatC f l := rfl
    have h1 : (f x).toList.length = m := by rw [Array.length_toList, h x (by simp)]
    rw [e, List.getElem?_append_right (by rw [h1, Nat.add_mul]; omega), h1, show (k + 1) * m + j - m = k * m + j by rw [Nat.add_mul]; omega, ih]
    simp
theorem flatC_set : ∀ (l : List α) (k : Nat) (x : α), k < l.length → (∀ y ∈ l, (f y).size = m) → (f x).size = m →
    (flatC f l).take (k * m) ++ (f x).toList ++ (flatC f l).drop (k * m + (f x).toList.length) = flatC f (l.set k x)
  | [], _, _, h, _, _ => absurd h (by simp)
  | y :: l, 0, x, _, h, hx => by
    have e : flatC f (y :: l) = (f y).toList ++ flatC f l := rfl
    have h1 : (f y).toList.length = m := by rw [Array.length_toList, h y (by simp)]
    have h2 : (f x).toList.length = m := by rw [Array.length_toList, hx]
    rw [e, Nat.zero_mul, List.take_zero, h2, Nat.zero_add, List.drop_left' h1]
    rfl
  | y :: l, k + 1, x, hk, h, hx => by
    have ih := flatC_set l k x (by simpa using hk) (fun z hz => h z (List.mem_cons_of_mem _ hz)) hx
    have e : flatC f (y :: l) = (f y).toList ++ flatC f l := rfl
    have h1 : (f y).toList.length = m := by rw [Array.length_toList, h y (by simp)]
    have h2 : (f x).toList.length = m := by rw [Array.length_toList, hx]
    have e2 : flatC f ((y :: l).set (k + 1) x) = (f y).toList ++ flatC f (l.set k x) := rfl
    rw [e2, ← ih, e, h2, List.take_append, List.drop_append, h1, List.take_of_length_le (by rw [h1, Nat.add_mul]; omega), List.drop_of_length_le (by rw [h1, Nat.add_mul]; omega),
      show (k + 1) * m - m = k * m by rw [Nat.add_mul]; omega, show (k + 1) * m + m - m = k * m + m by rw [Nat.add_mul]; omega]
    simp only [List.append_assoc, List.nil_append]
end
/-! What writes make of sectors. -/
abbrev WrV := Nat × List UInt8
def appl (F : List (List UInt8)) (R : List WrV) : List (List UInt8) := R.foldl (fun S x => S.set x.1 x.2) F
theorem appl_nil (F : List (List UInt8)) : appl F [] = F := rfl
theorem appl_snoc (F : List (List UInt8)) (R : List WrV) (x : WrV) : appl F (R ++ [x]) = (appl F R).set x.1 x.2 := by simp [appl]
theorem appl_len : ∀ (R : List WrV) (F : List (List UInt8)), (appl F R).length = F.length
  | [], F => rfl
  | x :: R, F => by
    have ih := appl_len R (F.set x.1 x.2)
    simp only [appl, List.foldl_cons] at ih ⊢
    rw [ih, List.length_set]
theorem appl_all {P : List UInt8 → Prop} : ∀ (R : List WrV) (F : List (List UInt8)), (∀ D ∈ F, P D) → (∀ x ∈ R, P x.2) → ∀ D ∈ appl F R, P D
  | [], F, h, _ => h
  | x :: R, F, h, hr => by
    have ih := appl_all R (F.set x.1 x.2) (fun D hD => by
      rcases List.mem_or_eq_of_mem_set hD with h1 | h1
      · exact h D h1
      · rw [h1]; exact hr x (by simp)) (fun y hy => hr y (List.mem_cons_of_mem _ hy))
    simpa [appl] using ih
def wasL : List (List UInt8) → List WrV → List (Nat × List UInt8 × List UInt8)
  | _, [] => []
  | F, x :: R => (x.1, F.getD x.1 [], x.2) :: wasL (F.set x.1 x.2) R
theorem wasL_len : ∀ (R : List WrV) (F : List (List UInt8)), (wasL F R).length = R.length
  | [], F => rfl
  | x :: R, F => by simp [wasL, wasL_len R]
theorem wasL_snoc : ∀ (R : List WrV) (F : List (List UInt8)) (x : WrV), wasL F (R ++ [x]) = wasL F R ++ [(x.1, (appl F R).getD x.1 [], x.2)]
  | [], F, x => rfl
  | y :: R, F, x => by
    have ih := wasL_snoc R (F.set y.1 y.2) x
    simp only [List.cons_append, wasL, ih]
    simp [appl]
theorem wasL_at : ∀ (R : List WrV) (F : List (List UInt8)) (k : Nat) (h : k < R.length), (wasL F R)[k]? = some (R[k].1, (appl F (R.take k)).getD R[k].1 [], R[k].2)
  | [], _, _, h => absurd h (by simp)
  | x :: R, F, 0, _ => rfl
  | x :: R, F, k + 1, h => by
    have ih := wasL_at R (F.set x.1 x.2) k (by simpa using h)
    simp only [wasL, List.getElem?_cons_succ, ih, List.getElem_cons_succ, List.take_succ_cons]
    simp [appl]
theorem set_back (F : List (List UInt8)) (i : Nat) (D : List UInt8) (h : i < F.length) : (F.set i D).set i (F.getD i []) = F := by
  rw [List.set_set]
  apply List.ext_getElem?
  intro j
  rw [List.getElem?_set]
  by_cases hij : i = j
  · subst hij
    simp [List.getD, h]
  · rw [if_neg hij]
theorem undo (F : List (List UInt8)) (R : List WrV) (k : Nat) (h : k < R.length) (hk : R[k].1 < F.length) : (appl F (R.take (k + 1))).set R[k].1 ((appl F (R.take k)).getD R[k].1 []) = appl F (R.take k) := by
  rw [List.take_succ_eq_append_getElem h, appl_snoc]
  exact set_back _ _ _ (by rw [appl_len]; exact hk)
/-- Of loose writes those that stay. -/
def kept : List WrV → List Bool → List WrV
  | x :: R, b :: S => (if b = true then [x] else []) ++ kept R S
  | _, _ => []
theorem kept_nil (S : List Bool) : kept [] S = [] := by cases S <;> rfl
theorem kept_none (R : List WrV) : kept R [] = [] := by cases R <;> rfl
theorem kept_take : ∀ (R : List WrV) (S : List Bool) (k : Nat) (h : k < R.length), kept (R.take (k + 1)) S = kept (R.take k) S ++ (if S.getD k false = true then [R[k]] else [])
  | [], _, _, h => absurd h (by simp)
  | x :: R, [], k, h => by simp [kept_none]
  | x :: R, b :: S, 0, _ => by
    simp [kept, kept_nil]
  | x :: R, b :: S, k + 1, h => by
    have ih := kept_take R S k (by simpa using h)
    simp only [List.take_succ_cons, kept, ih, List.getElem_cons_succ, List.append_assoc]
    simp [List.getD]
    rfl
theorem kept_short : ∀ (R : List WrV) (S : List Bool) (k : Nat), S.length ≤ k → kept (R.take k) S = kept R S
  | [], S, k, _ => by simp
  | x :: R, [], k, _ => by simp [kept_none]
  | x :: R, b :: S, 0, h => absurd h (by simp)
  | x :: R, b :: S, k + 1, h => by
    have ih := kept_short R S k (by simpa using h)
    simp [kept, ih]
theorem kept_mem : ∀ (R : List WrV) (S : List Bool) (x : WrV), x ∈ kept R S → x ∈ R
  | [], S, x, h => by simp [kept_nil] at h
  | y :: R, [], x, h => by simp [kept_none] at h
  | y :: R, b :: S, x, h => by
    simp only [kept, List.mem_append] at h
    rcases h with h | h
    · split at h
      · simp at h; simp [h]
      · cases h
    · exact List.mem_cons_of_mem _ (kept_mem R S x h)
/-! What a call leaves of all blocks but those of some types. -/
def UnT (T : List TypeId) (w w' : World) : Prop := w.heap.size ≤ w'.heap.size ∧ ∀ k, k < w.heap.size → (∀ cs t fz, w.heap[k]? = some (.cells cs t fz) → t ∉ T) → w'.heap[k]? = w.heap[k]?
section
variable {w w' w2 : World} {T : List TypeId} {g : Nat} {t : TypeId} {cs : Array Value}
theorem UnT.refl (T : List TypeId) (w : World) : UnT T w w := ⟨Nat.le_refl _, fun _ _ _ => rfl⟩
theorem UnT.trans (h : UnT T w w') (h2 : UnT T w' w2) : UnT T w w2 :=
  ⟨Nat.le_trans h.1 h2.1, fun k hk ht => by
    have e := h.2 k hk ht
    exact (h2.2 k (Nat.lt_of_lt_of_le hk h.1) (fun cs t fz hc => ht cs t fz (e ▸ hc))).trans e⟩
theorem UnT.of_below (h : Below w.heap.size w w') : UnT T w w' := ⟨h.size, fun k hk _ => h.block k hk⟩
theorem UnT.of_grown {row : Option Nat} (h : w.grownBy w' row) (hr : ∀ k, row = some k → ∃ cs t fz, w.heap[k]? = some (.cells cs t fz) ∧ t ∈ T) : UnT T w w' :=
  ⟨h.size, fun k hk ht => h.block k hk fun e => by
    obtain ⟨cs, t, fz, h1, h2⟩ := hr k e.symm
    exact ht cs t fz h1 h2⟩
theorem Bk.unt (h : Bk w g t cs) (hu : UnT T w w') (ht : t ∉ T) : Bk w' g t cs := (hu.2 g h.lt (fun cs' t' fz e => by
  have h1 := h
  unfold Bk at h1
  rw [h1] at e
  injection e with e
  injection e with _ e2 _
  rw [← e2]
  exact ht)).trans h
theorem ownsRow_heapk {base size n : Nat} {e : TypeId} {v : Value} {xs : List Value} (h : w.ownsRow base e size v n xs) (hg : ∀ g, v.ownBlock = some g → w'.heap[g]? = w.heap[g]?) : w'.ownsRow base e size v n xs := by
  refine ⟨h.1, ?_⟩
  rcases h.2 with h2 | ⟨g, cap, cur, hv, hb, hh, rest⟩
  · exact .inl h2
  · exact .inr ⟨g, cap, cur, hv, hb, (hg g (by rw [hv]; rfl)).trans hh, rest⟩
theorem ownsRow_ty {base size n : Nat} {e : TypeId} {v : Value} {xs : List Value} (h : w.ownsRow base e size v n xs) : ∀ g, v.ownBlock = some g → base ≤ g ∧ g < w.heap.size ∧ ∃ cs, w.heap[g]? = some (.cells cs e (0, 0)) := fun g hg => by
  have hlt := World.ownsRow.lt h g hg
  rcases h.2 with ⟨hv, _⟩ | ⟨g', cap, cur, hv, _, hh, _⟩
  · subst hv; cases hg
  · subst hv
    injection hg with hg
    simp only at hg
    subst hg
    exact ⟨hlt.1, hlt.2, cur, hh⟩
theorem ownsRow_unt {base size n : Nat} {e : TypeId} {v : Value} {xs : List Value} (h : w.ownsRow base e size v n xs) (hu : UnT T w w') (ht : e ∉ T) : w'.ownsRow base e size v n xs := ownsRow_heapk h fun g hg => by
  obtain ⟨_, hlt, cs, hh⟩ := ownsRow_ty h g hg
  refine hu.2 g hlt fun cs' t' fz e2 => ?_
  rw [hh] at e2
  injection e2 with e2
  injection e2 with _ e3 _
  rw [← e3]
  exact ht
theorem Bk.neT {a b : Nat} {t' : TypeId} {cs' : Array Value} (h : Bk w a t cs) (h' : Bk w b t' cs') (ht : t ≠ t') : a ≠ b := by
  rintro rfl
  have e := Option.some.inj ((show w.heap[a]? = some (.cells cs t (0, 0)) from h).symm.trans (show w.heap[a]? = some (.cells cs' t' (0, 0)) from h'))
  injection e with _ e2 _
  exact ht e2
theorem Bk.neRow {base size n : Nat} {e : TypeId} {v : Value} {xs : List Value} (h : Bk w g t cs) (ho : w.ownsRow base e size v n xs) (ht : t ≠ e) : some g ≠ v.ownBlock := fun hg => by
  obtain ⟨_, _, cs', hh⟩ := ownsRow_ty ho g hg.symm
  exact h.neT (show Bk w g e cs' from hh) ht rfl
end
/-! Cells stored into the middle of a block. -/
theorem setRow_grown (w : World) (g : Nat) (cs : Array Value) : w.grownBy (w.setRow g cs) (some g) :=
  ⟨rfl, rfl, rfl, by simp [World.setRow], fun i hi hne => setRow_other w g i cs (fun e => hne (by rw [e]))⟩
theorem run_storeVar_mid {P : Program} {w : World} {g : Nat} {t : TypeId} {cs : Array Value} (hb : Bk w g t cs) (ty : TypeId) (o : Nat) (vs : Array Value) (hi : (P.info? ty).map (·.size) = some vs.size) (hl : o + vs.size ≤ cs.size) (h1 : ∀ v ∈ vs.toList, v.oneCell' = true) :
    (storeVar ty ⟨g, o, none⟩ (.agg vs)).run P w = .ok () (w.setRow g (cs.toList.take o ++ vs.toList ++ cs.toList.drop (o + vs.toList.length)).toArray) := by
  obtain ⟨i, hi1, hi2⟩ := Option.map_eq_some_iff.1 hi
  have h := storeCells_mark P g o t (0, 0) vs.toList 0 cs w hb (fun j _ hc => by simp only at hc; omega) (by simpa using hl) h1
  simp only [Nat.add_zero] at h
  simp [storeVar, sizeOf, typeInfo, hi1, hi2, Value.cells, Sem.run_bind, h]
theorem rowOf_ones (D : List UInt8) : ∀ u ∈ (rowOf D).toList, u.oneCell' = true := fun u hu => by
  simp [rowOf] at hu
  obtain ⟨b, _, rfl⟩ := hu
  rfl
end Go.Proofs.Ytdlciehboimciaa

namespace Go.Proofs.Ytdlciehboimciaa
set_option maxRecDepth 100000
open Go.RowKit
set_option linter.unusedVariables false
set_option linter.unusedSimpArgs false

def wrR (x : Nat × List UInt8 × List UInt8) : Array Value := #[.int .i64 (x.1 : Int)] ++ rowOf x.2.1 ++ rowOf x.2.2
theorem wrR_size (x : Nat × List UInt8 × List UInt8) (h1 : x.2.1.length = 64) (h2 : x.2.2.length = 64) : (wrR x).size = 129 := by simp [wrR, rowOf_size, h1, h2]
def dkT : List TypeId := [67, 58, 86]
/-- What lies behind a disk's pointer: F was synced, R was written since. -/
structure DkV (b0 : Nat) (w : World) (p q n : Nat) (F : List (List UInt8)) (R : List WrV) (v : Value) (fu : Nat) (off : Bool) : Prop where
  hp : b0 ≤ p
  hq : b0 ≤ q
  n1 : 1 ≤ n
  n2 : n ≤ 8192
  hF : F.length = n
  F64 : ∀ D ∈ F, D.length = 64
  hR : ∀ x ∈ R, x.1 < n ∧ x.2.length = 64
  hfu : fu ≤ 9223372036854775807
  bp : Bk w p 67 #[.slice (some ⟨q, 0, none⟩) n n, v, .int .i64 (fu : Int), .bool off]
  lo : w.ownsRow b0 86 129 v R.length (flatC wrR (wasL F R))
  bq : Bk w q 58 (flatC rowOf (appl F R)).toArray
def DkI (b0 : Nat) (w : World) (p q n : Nat) (F : List (List UInt8)) (R : List WrV) (fu : Nat) (off : Bool) : Prop := ∃ v, DkV b0 w p q n F R v fu off
section
variable {b0 : Nat} {w w' : World} {p q n : Nat} {F : List (List UInt8)} {R : List WrV} {v : Value} {fu : Nat} {off : Bool} {T : List TypeId}
theorem DkV.unt (h : DkV b0 w p q n F R v fu off) (hu : UnT T w w') (ht : ∀ t ∈ dkT, t ∉ T) : DkV b0 w' p q n F R v fu off :=
  ⟨h.hp, h.hq, h.n1, h.n2, h.hF, h.F64, h.hR, h.hfu, h.bp.unt hu (ht _ (by simp [dkT])), ownsRow_unt h.lo hu (ht _ (by simp [dkT])), h.bq.unt hu (ht _ (by simp [dkT]))⟩
theorem DkI.unt (h : DkI b0 w p q n F R fu off) (hu : UnT T w w') (ht : ∀ t ∈ dkT, t ∉ T) : DkI b0 w' p q n F R fu off := by
  obtain ⟨v, h⟩ := h
  exact ⟨v, h.unt hu ht⟩
theorem DkV.below (h : DkV b0 w p q n F R v fu off) (hb : Below w.heap.size w w') : DkV b0 w' p q n F R v fu off := h.unt (T := []) ⟨hb.size, fun k hk _ => hb.block k hk⟩ fun _ _ => by simp
theorem DkI.below (h : DkI b0 w p q n F R fu off) (hb : Below w.heap.size w w') : DkI b0 w' p q n F R fu off := h.unt (T := []) ⟨hb.size, fun k hk _ => hb.block k hk⟩ fun _ _ => by simp
theorem DkV.form (h : DkV b0 w p q n F R v fu off) : ∃ A c, v = .slice A R.length c := by
  rcases h.lo.2 with ⟨hv, h0⟩ | ⟨g, cap, cur, hv, _⟩
  · exact ⟨none, 0, by rw [h0]; exact hv⟩
  · exact ⟨_, cap, hv⟩
theorem DkV.cells (h : DkV b0 w p q n F R v fu off) : w.cell? ⟨p, 0, none⟩ = some (.slice (some ⟨q, 0, none⟩) n n) ∧ w.cell? ⟨p, 1, none⟩ = some v ∧ w.cell? ⟨p, 2, none⟩ = some (.int .i64 (fu : Int)) ∧ w.cell? ⟨p, 3, none⟩ = some (.bool off) :=
  ⟨h.bp.cell 0, h.bp.cell 1, h.bp.cell 2, h.bp.cell 3⟩
theorem Bk.putD {t : TypeId} {cs : Array Value} (h : Bk w p t cs) (hp : b0 ≤ p) (ht : t ∈ T) (i : Nat) (u : Value) : Below b0 w (w.setCell ⟨p, i, none⟩ u) ∧ UnT T w (w.setCell ⟨p, i, none⟩ u) :=
  ⟨(Below.refl b0 w).setCell (p := ⟨p, i, none⟩) hp u, UnT.of_grown (grown_put (World.grownBy.refl w _) i u) fun k e => by
    injection e with e
    subst e
    exact ⟨cs, t, (0, 0), h, ht⟩⟩
theorem DkV.turn (h : DkV b0 w p q n F R v fu off) (i : Nat) (u : Value) {fu' : Nat} {off' : Bool} (hf : fu' ≤ 9223372036854775807)
    (hb : Bk (w.setCell ⟨p, i, none⟩ u) p 67 #[.slice (some ⟨q, 0, none⟩) n n, v, .int .i64 (fu' : Int), .bool off']) : DkV b0 (w.setCell ⟨p, i, none⟩ u) p q n F R v fu' off' := by
  have hne : ∀ k, k ≠ p → (w.setCell ⟨p, i, none⟩ u).heap[k]? = w.heap[k]? := fun k hk => Below.heap_setCell w ⟨p, i, none⟩ u k hk
  refine ⟨h.hp, h.hq, h.n1, h.n2, h.hF, h.F64, h.hR, hf, hb, ownsRow_heapk h.lo fun g hg => hne g fun e => ?_, h.bq.far (p := ⟨p, i, none⟩) (h.bq.neT h.bp (by decide)) u⟩
  subst e
  exact h.bp.neRow h.lo (by decide) hg.symm
theorem DkV.fuse_ (h : DkV b0 w p q n F R v fu off) (fu' : Nat) (hf : fu' ≤ 9223372036854775807) : DkV b0 (w.setCell ⟨p, 2, none⟩ (.int .i64 (fu' : Int))) p q n F R v fu' off := h.turn 2 _ hf (h.bp.set_ 2 _)
theorem DkV.off_ (h : DkV b0 w p q n F R v fu off) (off' : Bool) : DkV b0 (w.setCell ⟨p, 3, none⟩ (.bool off')) p q n F R v fu off' := h.turn 3 _ h.hfu (h.bp.set_ 3 _)
theorem DkV.app64 (h : DkV b0 w p q n F R v fu off) : ∀ D ∈ appl F R, D.length = 64 := appl_all R F h.F64 fun x hx => (h.hR x hx).2
/-- All stays. -/
theorem DkV.sync (h : DkV b0 w p q n F R v fu off) : DkV b0 (w.setCell ⟨p, 1, none⟩ (.slice none 0 0)) p q n (appl F R) [] (.slice none 0 0) fu off :=
  ⟨h.hp, h.hq, h.n1, h.n2, by rw [appl_len]; exact h.hF, h.app64, fun _ hx => (by cases hx), h.hfu, h.bp.set_ 1 _, World.ownsRow_nil _ _ _ _, h.bq.far (p := ⟨p, 1, none⟩) (h.bq.neT h.bp (by decide)) _⟩
end
section
variable {b0 : Nat} {w : World} {p q n : Nat} {F : List (List UInt8)} {R : List WrV} {fu : Nat} {off : Bool}
set_option maxRecDepth 100000 in
set_option maxHeartbeats 1000000 in
theorem made_yes (h : DkI b0 w p q n F R fu off) : Calls Try.prog 41 #[.pointer (some ⟨p, 0, none⟩)] w fun e w' => e = .returned (.bool true) ∧ w = w' := by
  obtain ⟨v, h⟩ := h
  obtain ⟨c0, _, _, _⟩ := h.cells
  have n1 := h.n1
  have d1 : decide ((n : Int) > 0) = true := decide_eq_true (by omega)
  have d2 : decide ((0 : Int) < (n : Int)) = true := decide_eq_true (by omega)
  have d3 : decide (0 < n) = true := decide_eq_true (by omega)
  clear h n1
  go_enter Try.func41, Try.ntmps41
  go_wp2
  go_ret
  exact ⟨rfl, rfl⟩
set_option maxRecDepth 100000 in
set_option maxHeartbeats 1000000 in
theorem made_nil (w : World) : Calls Try.prog 41 #[.pointer none] w fun e w' => e = .returned (.bool false) ∧ w = w' := by
  go_enter Try.func41, Try.ntmps41
  go_wp2
  go_ret
  exact ⟨rfl, rfl⟩
set_option maxRecDepth 100000 in
set_option maxHeartbeats 1000000 in
theorem powered_any (h : DkI b0 w p q n F R fu off) : Calls Try.prog 65 #[.pointer (some ⟨p, 0, none⟩)] w fun e w' => e = .returned (.int .i64 (if off = true then 9 else 0)) ∧ w = w' := by
  have ci := made_yes h
  obtain ⟨v, h⟩ := h
  obtain ⟨_, _, _, c3⟩ := h.cells
  clear h
  cases off <;>
  · go_enter Try.func65, Try.ntmps65
    go_wp2_with (go_at_call 41; ((with_reducible refine ci.mono ?_); clear ci; rintro e w' ⟨rfl, rfl⟩))
    go_ret
    exact ⟨rfl, rfl⟩
set_option maxRecDepth 100000 in
set_option maxHeartbeats 1000000 in
theorem powered_nil (w : World) : Calls Try.prog 65 #[.pointer none] w fun e w' => e = .returned (.int .i64 1) ∧ w = w' := by
  have ci := made_nil w
  go_enter Try.func65, Try.ntmps65
  go_wp2_with (go_at_call 41; ((with_reducible refine ci.mono ?_); clear ci; rintro e w' ⟨rfl, rfl⟩))
  go_ret
  exact ⟨rfl, rfl⟩
/-- Why a sector can't be read or written: a down disk, no such one; else nothing. -/
def hasE (n : Nat) (off : Bool) (z : Int) : Int := if off = true then 9 else if z < 0 ∨ (n : Int) ≤ z then 1 else 0
set_option maxRecDepth 100000 in
set_option maxHeartbeats 2000000 in
theorem dhas_any (h : DkI b0 w p q n F R fu off) (z : Int) : Calls Try.prog 47 #[.pointer (some ⟨p, 0, none⟩), .int .i64 z] w fun e w' => e = .returned (.int .i64 (hasE n off z)) ∧ w = w' := by
  have ci := powered_any h
  obtain ⟨v, h⟩ := h
  obtain ⟨c0, _, _, _⟩ := h.cells
  clear h
  unfold hasE
  cases off
  · by_cases h0 : z < 0
    · rw [if_neg (by decide), if_pos (.inl h0)]
      have d1 : decide (z < 0) = true := decide_eq_true h0
      clear h0
      go_enter Try.func47, Try.ntmps47
      go_wp2_with (go_at_call 65; ((with_reducible refine ci.mono ?_); clear ci; rintro e w' ⟨rfl, rfl⟩))
      go_ret
      exact ⟨rfl, rfl⟩
    · have d1 : decide (z < 0) = false := decide_eq_false h0
      by_cases h1 : (n : Int) ≤ z
      · rw [if_neg (by decide), if_pos (.inr h1)]
        have d2 : decide ((n : Int) ≤ z) = true := decide_eq_true h1
        clear h0 h1
        go_enter Try.func47, Try.ntmps47
        go_wp2_with (go_at_call 65; ((with_reducible refine ci.mono ?_); clear ci; rintro e w' ⟨rfl, rfl⟩))
        go_ret
        exact ⟨rfl, rfl⟩
      · rw [if_neg (by decide), if_neg (by omega)]
        have d2 : decide ((n : Int) ≤ z) = false := decide_eq_false h1
        clear h0 h1
        go_enter Try.func47, Try.ntmps47
        go_wp2_with (go_at_call 65; ((with_reducible refine ci.mono ?_); clear ci; rintro e w' ⟨rfl, rfl⟩))
        go_ret
        exact ⟨rfl, rfl⟩
  · rw [if_pos rfl]
    go_enter Try.func47, Try.ntmps47
    go_wp2_with (go_at_call 65; ((with_reducible refine ci.mono ?_); clear ci; rintro e w' ⟨rfl, rfl⟩))
    go_ret
    exact ⟨rfl, rfl⟩
set_option maxRecDepth 100000 in
set_option maxHeartbeats 1000000 in
theorem dhas_nil (w : World) (z : Int) : Calls Try.prog 47 #[.pointer none, .int .i64 z] w fun e w' => e = .returned (.int .i64 1) ∧ w = w' := by
  have ci := powered_nil w
  go_enter Try.func47, Try.ntmps47
  go_wp2_with (go_at_call 65; ((with_reducible refine ci.mono ?_); clear ci; rintro e w' ⟨rfl, rfl⟩))
  go_ret
  exact ⟨rfl, rfl⟩
/-- An act that tells an error or none. -/
def DkP (b0 : Nat) (w : World) (p q n : Nat) (F : List (List UInt8)) (R : List WrV) (fu : Nat) (off : Bool) (z : Int) (e : Ending) (w' : World) : Prop :=
  e = .returned (.int .i64 z) ∧ DkI b0 w' p q n F R fu off ∧ Below b0 w w' ∧ UnT dkT w w'
def burnO (fu : Nat) (off : Bool) : Bool := off || decide (fu = 1)
def burnE (fu : Nat) : Int := if fu = 1 then 9 else 0
set_option maxRecDepth 100000 in
set_option maxHeartbeats 2000000 in
theorem dburn_any (h : DkI b0 w p q n F R fu false) : Calls Try.prog 48 #[.pointer (some ⟨p, 0, none⟩)] w (DkP b0 w p q n F R (fu - 1) (burnO fu false) (burnE fu)) := by
  obtain ⟨v, h⟩ := h
  rcases fu with _ | _ | k
  · obtain ⟨c0, c1, c2, c3⟩ := h.cells
    have HH := hidD_ h
    clear h
    go_enter Try.func48, Try.ntmps48
    go_wp2
    go_ret
    exact ⟨rfl, ⟨v, HH.out⟩, Below.refl _ _, UnT.refl _ _⟩
  · obtain ⟨c0, c1, c2, c3⟩ := h.cells
    have f2 := h.bp.frozen 2
    have f3 := h.bp.frozen 3
    have X := h.fuse_ 0 (by omega)
    have Y := hidD_ (X.off_ true)
    have P1 := hidD_ (Bk.putD (T := dkT) h.bp h.hp (by simp [dkT]) 2 (.int .i64 ((0 : Nat) : Int)))
    have P2 := hidD_ (Bk.putD (T := dkT) X.bp h.hp (by simp [dkT]) 3 (.bool true))
    clear X h
    have e0 : ((0 + 1 : Nat) : Int) = 1 := rfl
    rw [e0] at c2
    go_enter Try.func48, Try.ntmps48
    go_wp2
    go_ret
    exact ⟨rfl, ⟨v, Y.out⟩, P1.out.1.trans P2.out.1, P1.out.2.trans P2.out.2⟩
  · obtain ⟨c0, c1, c2, c3⟩ := h.cells
    have f2 := h.bp.frozen 2
    have f3 := h.bp.frozen 3
    have hfu := h.hfu
    have X := hidD_ (h.fuse_ (k + 1) (by omega))
    have P1 := hidD_ (Bk.putD (T := dkT) h.bp h.hp (by simp [dkT]) 2 (.int .i64 ((k + 1 : Nat) : Int)))
    have e1 : IntKind.i64.wrap (((k + 1 + 1 : Nat) : Int) - 1) = ((k + 1 : Nat) : Int) := by rw [IntWalk.i64_in _ (by omega)]; omega
    have d1 : (((k + 1 + 1 : Nat) : Int) == 0) = false := by simp; omega
    have d2 : decide (0 < ((k + 1 : Nat) : Int)) = true := decide_eq_true (by omega)
    clear h hfu
    generalize ((k + 1 + 1 : Nat) : Int) = z2 at *
    generalize ((k + 1 : Nat) : Int) = z1 at *
    go_enter Try.func48, Try.ntmps48
    go_wp2
    go_ret
    exact ⟨by simp [burnE], ⟨v, by simpa [burnO] using X.out⟩, P1.out⟩
end
end Go.Proofs.Ytdlciehboimciaa

namespace Go.Proofs.Ytdlciehboimciaa
set_option maxRecDepth 100000
open Go.RowKit
set_option linter.unusedVariables false
set_option linter.unusedSimpArgs false

theorem run_maxk (x y m : Int) (hm : m = max x y) (w : World) (ts : Array TypeId) (t : TypeId) :
    (Builtin.max_ ts t #[.int .i64 x, .int .i64 y]).run Try.prog w = .ok (.int .i64 m) w := by
  simp [Builtin.max_, Builtin.max2]
  repeat' split
  all_goals omega
theorem DkV.lower {b0 b1 : Nat} {w : World} {p q n : Nat} {F : List (List UInt8)} {R : List WrV} {v : Value} {fu : Nat} {off : Bool} (h : DkV b0 w p q n F R v fu off) (hb : b1 ≤ b0) : DkV b1 w p q n F R v fu off :=
  ⟨Nat.le_trans hb h.hp, Nat.le_trans hb h.hq, h.n1, h.n2, h.hF, h.F64, h.hR, h.hfu, h.bp, World.ownsRow.mono h.lo hb, h.bq⟩
theorem DkI.lower {b0 b1 : Nat} {w : World} {p q n : Nat} {F : List (List UInt8)} {R : List WrV} {fu : Nat} {off : Bool} (h : DkI b0 w p q n F R fu off) (hb : b1 ≤ b0) : DkI b1 w p q n F R fu off := by
  obtain ⟨v, h⟩ := h
  exact ⟨v, h.lower hb⟩
section
variable {b0 : Nat} {w : World} {p q n : Nat} {F : List (List UInt8)} {R : List WrV} {fu : Nat} {off : Bool}
set_option maxRecDepth 100000 in
set_option maxHeartbeats 1000000 in
theorem dsize_yes (h : DkI b0 w p q n F R fu off) : Calls Try.prog 29 #[.pointer (some ⟨p, 0, none⟩)] w fun e w' => e = .returned (.int .i64 (n : Int)) ∧ w = w' := by
  have ci := made_yes h
  obtain ⟨v, h⟩ := h
  obtain ⟨c0, _, _, _⟩ := h.cells
  clear h
  go_enter Try.func29, Try.ntmps29
  go_wp2_with (go_at_call 41; ((with_reducible refine ci.mono ?_); clear ci; rintro e w' ⟨rfl, rfl⟩))
  go_ret
  exact ⟨rfl, rfl⟩
set_option maxRecDepth 100000 in
set_option maxHeartbeats 1000000 in
theorem dsize_nil (w : World) : Calls Try.prog 29 #[.pointer none] w fun e w' => e = .returned (.int .i64 0) ∧ w = w' := by
  have ci := made_nil w
  go_enter Try.func29, Try.ntmps29
  go_wp2_with (go_at_call 41; ((with_reducible refine ci.mono ?_); clear ci; rintro e w' ⟨rfl, rfl⟩))
  go_ret
  exact ⟨rfl, rfl⟩
set_option maxRecDepth 100000 in
set_option maxHeartbeats 1000000 in
theorem dloose_yes (h : DkI b0 w p q n F R fu off) : Calls Try.prog 20 #[.pointer (some ⟨p, 0, none⟩)] w fun e w' => e = .returned (.int .i64 (R.length : Int)) ∧ w = w' := by
  have ci := made_yes h
  obtain ⟨v, h⟩ := h
  obtain ⟨A, c, rfl⟩ := h.form
  obtain ⟨_, c1, _, _⟩ := h.cells
  clear h
  go_enter Try.func20, Try.ntmps20
  go_wp2_with (go_at_call 41; ((with_reducible refine ci.mono ?_); clear ci; rintro e w' ⟨rfl, rfl⟩))
  go_ret
  exact ⟨rfl, rfl⟩
set_option maxRecDepth 100000 in
set_option maxHeartbeats 1000000 in
theorem dloose_nil (w : World) : Calls Try.prog 20 #[.pointer none] w fun e w' => e = .returned (.int .i64 0) ∧ w = w' := by
  have ci := made_nil w
  go_enter Try.func20, Try.ntmps20
  go_wp2_with (go_at_call 41; ((with_reducible refine ci.mono ?_); clear ci; rintro e w' ⟨rfl, rfl⟩))
  go_ret
  exact ⟨rfl, rfl⟩
set_option maxRecDepth 100000 in
set_option maxHeartbeats 1000000 in
theorem doff_yes (h : DkI b0 w p q n F R fu off) : Calls Try.prog 24 #[.pointer (some ⟨p, 0, none⟩)] w fun e w' => e = .returned (.bool off) ∧ w = w' := by
  have ci := made_yes h
  obtain ⟨v, h⟩ := h
  obtain ⟨_, _, _, c3⟩ := h.cells
  clear h
  go_enter Try.func24, Try.ntmps24
  go_wp2_with (go_at_call 41; ((with_reducible refine ci.mono ?_); clear ci; rintro e w' ⟨rfl, rfl⟩))
  go_ret
  exact ⟨rfl, rfl⟩
set_option maxRecDepth 100000 in
set_option maxHeartbeats 1000000 in
theorem doff_nil (w : World) : Calls Try.prog 24 #[.pointer none] w fun e w' => e = .returned (.bool true) ∧ w = w' := by
  have ci := made_nil w
  go_enter Try.func24, Try.ntmps24
  go_wp2_with (go_at_call 41; ((with_reducible refine ci.mono ?_); clear ci; rintro e w' ⟨rfl, rfl⟩))
  go_ret
  exact ⟨rfl, rfl⟩
set_option maxRecDepth 100000 in
set_option maxHeartbeats 1000000 in
theorem dfuse_yes (h : DkI b0 w p q n F R fu off) (z : Int) (f : Nat) (hz : (f : Int) = max z 0) (hf : f ≤ 9223372036854775807) : Calls Try.prog 23 #[.pointer (some ⟨p, 0, none⟩), .int .i64 z] w fun e w' => e = .returned (.tuple #[]) ∧ DkI b0 w' p q n F R f off ∧ Below b0 w w' ∧ UnT dkT w w' := by
  have ci := made_yes h
  obtain ⟨v, h⟩ := h
  obtain ⟨_, _, c2, _⟩ := h.cells
  have f2 := h.bp.frozen 2
  have hm := fun W ts t => run_maxk z 0 (f : Int) hz W ts t
  have X := hidD_ (h.fuse_ f hf)
  have P1 := hidD_ (Bk.putD (T := dkT) h.bp h.hp (by simp [dkT]) 2 (.int .i64 (f : Int)))
  clear h
  go_enter Try.func23, Try.ntmps23
  go_wp2_with (go_at_call 41; ((with_reducible refine ci.mono ?_); clear ci; rintro e w' ⟨rfl, rfl⟩))
  rw [← hz]
  go_end0
  exact ⟨rfl, ⟨v, X.out⟩, P1.out⟩
set_option maxRecDepth 100000 in
set_option maxHeartbeats 1000000 in
theorem dfuse_nil (w : World) (z : Int) : Calls Try.prog 23 #[.pointer none, .int .i64 z] w fun e w' => e = .returned (.tuple #[]) ∧ w = w' := by
  have ci := made_nil w
  go_enter Try.func23, Try.ntmps23
  go_wp2_with (go_at_call 41; ((with_reducible refine ci.mono ?_); clear ci; rintro e w' ⟨rfl, rfl⟩))
  first | (go_ret; exact ⟨rfl, rfl⟩) | (go_end0; exact ⟨rfl, rfl⟩) | (refine bodyPost_ret (results_none rfl _ _ _) rfl ?_; exact ⟨rfl, rfl⟩)
end
/-! New. -/
def zsec : List UInt8 := List.replicate 64 0
def zsecs (n : Nat) : List (List UInt8) := List.replicate n zsec
theorem zsec_getD (j : Nat) (h : j < 64) : zsec.getD j 0 = 0 := by
  unfold zsec
  rw [List.getD_eq_getElem?_getD, List.getElem?_replicate, if_pos h]
  rfl
theorem infoSec : (Try.prog.info? 58).map (fun i => (i.zero, i.size, i.bytes)) = some (some (.agg (rowOf zsec)), 64, 64) := by kernel_rfl
theorem zsec_at (n j : Nat) (h : j < n * 64) : (madeCells (rowOf zsec) (n * 64))[j]? = some (.int .u8 0) := by
  rw [Array.getElem?_eq_getElem (by rw [size_madeCells]; exact h)]
  have h1 : (rowOf zsec).size = 64 := by simp [rowOf_size, zsec]
  have h2 : j % 64 < 64 := Nat.mod_lt _ (by omega)
  simp only [madeCells, Array.getElem_map, Array.getElem_range, h1]
  rw [Array.getElem!_eq_getD, Array.getD_eq_getD_getElem?, rowOf_at _ _ (by simp [zsec]; omega), zsec_getD _ h2]
  rfl
theorem made_zsecs (n : Nat) : madeCells (rowOf zsec) (n * 64) = (flatC rowOf (zsecs n)).toArray := by
  have hs : ∀ x ∈ zsecs n, (rowOf x).size = 64 := fun x hx => by
    obtain rfl := List.eq_of_mem_replicate hx
    simp [rowOf_size, zsec]
  have hl := flatC_len (zsecs n) hs
  have hn : (zsecs n).length = n := by simp [zsecs]
  rw [hn] at hl
  apply Array.ext_getElem?
  intro j
  rcases Nat.lt_or_ge j (n * 64) with h | h
  · rw [zsec_at n j h]
    have h2 : j % 64 < 64 := Nat.mod_lt _ (by omega)
    have h3 : j / 64 < n := by omega
    have h4 := flatC_at (zsecs n) (j / 64) (j % 64) (by rw [hn]; exact h3) hs h2
    have e : j / 64 * 64 + j % 64 = j := by omega
    rw [e] at h4
    have e5 : (zsecs n)[j / 64]'(by rw [hn]; exact h3) = zsec := by simp [zsecs]
    rw [e5] at h4
    rw [List.getElem?_toArray, h4, rowOf_at _ _ (by simp [zsec]; omega), zsec_getD _ h2]
    rfl
  · rw [Array.getElem?_eq_none (by rw [size_madeCells]; exact h), Array.getElem?_eq_none (by rw [List.size_toArray, hl]; exact h)]
theorem mkSec (n : Nat) (h9 : n ≤ 8192) (w : World) : (Instr.makeSlice 64 (.int .i64 (n : Int)) (.int .i64 (n : Int))).run Try.prog w = .ok (.slice (some ⟨w.heap.size, 0, none⟩) n n) (w.alloc (.cells (flatC rowOf (zsecs n)).toArray 58)) := by
  obtain ⟨i, hi, hz, hsize, hby⟩ := info_parts infoSec
  have h := run_make (P := Try.prog) w 64 58 i _ Try.underlying64 hi hz .i64 .i64 (n : Int) (n : Int) (by omega) (by omega) (by rw [hby]; omega) (by omega)
  rw [hsize] at h
  rw [← made_zsecs]
  simpa [Value.cells] using h
theorem dk_new (w : World) (n : Nat) (h1 : 1 ≤ n) (h9 : n ≤ 8192) : DkI w.heap.size ((w.alloc (.cells (flatC rowOf (zsecs n)).toArray 58)).alloc (.cells #[.slice (some ⟨w.heap.size, 0, none⟩) n n, .slice none 0 0, .int .i64 0, .bool false] 67)) (w.heap.size + 1) w.heap.size n (zsecs n) [] 0 false := by
  refine ⟨.slice none 0 0, by omega, Nat.le_refl _, h1, h9, by simp [zsecs], fun D hD => ?_, fun _ hx => (by cases hx), by omega, ?_, World.ownsRow_nil _ _ _ _, (Bk.new w _ _).alloc _⟩
  · obtain rfl := List.eq_of_mem_replicate hD
    simp [zsec]
  · have := Bk.new (w.alloc (.cells (flatC rowOf (zsecs n)).toArray 58)) 67 #[.slice (some ⟨w.heap.size, 0, none⟩) n n, .slice none 0 0, .int .i64 0, .bool false]
    simpa using this
set_option maxRecDepth 100000 in
set_option maxHeartbeats 2000000 in
theorem dnew_yes (w : World) (n : Nat) (h1 : 1 ≤ n) (h9 : n ≤ 8192) :
    Calls Try.prog 7 #[.int .i64 (n : Int)] w fun e w' => ∃ p q, e = .returned (.tuple #[.pointer (some ⟨p, 0, none⟩), .int .i64 0]) ∧ DkI w.heap.size w' p q n (zsecs n) [] 0 false ∧ Below w.heap.size w w' := by
  have d1 : decide ((n : Int) < 1) = false := decide_eq_false (by omega)
  have d2 : decide (8192 < (n : Int)) = false := decide_eq_false (by omega)
  have hm := mkSec n h9 w
  have HN := hidD_ (dk_new w n h1 h9)
  generalize (flatC rowOf (zsecs n)).toArray = cs at *
  go_enter Try.func7, Try.ntmps7
  go_wp2
  go_ret2
  exact ⟨w.heap.size + 1, w.heap.size, by simp, HN.out, ((Below.refl _ _).alloc (Nat.le_refl _) _).alloc (by simp) _⟩
set_option maxRecDepth 100000 in
set_option maxHeartbeats 1000000 in
theorem dnew_no (w : World) (z : Int) (hz : z < 1 ∨ 8192 < z) :
    Calls Try.prog 7 #[.int .i64 z] w fun e w' => e = .returned (.tuple #[.pointer none, .int .i64 1]) ∧ w = w' := by
  by_cases h0 : z < 1
  · have d1 : decide (z < 1) = true := decide_eq_true h0
    clear hz h0
    go_enter Try.func7, Try.ntmps7
    go_wp2
    go_ret2
    exact ⟨rfl, rfl⟩
  · have d1 : decide (z < 1) = false := decide_eq_false h0
    have d2 : decide (8192 < z) = true := decide_eq_true (by omega)
    clear hz h0
    go_enter Try.func7, Try.ntmps7
    go_wp2
    go_ret2
    exact ⟨rfl, rfl⟩
end Go.Proofs.Ytdlciehboimciaa
