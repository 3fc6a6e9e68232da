/-
  Rows of rows; a disk's sectors and its loose writes, by value.
-/
import Derived.Test.YtibnfldddpmafaaAm
import Derived.Test.YtibnfldddpmafaaFj
import Derived.Test.YtibnfldddpmafaaFr
import Derived.Test.YtibnfldddpmafaaUn
import Derived.Great.FillDense
import Derived.Great.BuildSlice
import Derived.Maps.AppendAt
namespace Go.Proofs.Ytibnfldddpmafaa
open Go.RowKit
set_option linter.unusedVariables false
set_option linter.unusedSimpArgs false

theorem hidD_ {p : Prop} (h : p) : Hid p := h
/-! Rows of rows. -/
def flatC {α : Type} (f : α → Array Value) (l : List α) : List Value := l.flatMap fun x => (f x).toList
section
variable {α : Type} {f : α → Array Value} {m : Nat}
theorem flatC_len : ∀ (l : List α), (∀ x ∈ l, (f x).size = m) → (flatC f l).length = l.length * m
  | [], _ => by simp [flatC]
  | x :: l, h => by
    have ih := flatC_len l (fun y hy => h y (List.mem_cons_of_mem _ hy))
    have e : flatC f (x :: l) = (f x).toList ++ flatC f l := rfl
    have h1 : (f x).toList.length = m := by rw [Array.length_toList, h x (by simp)]
    rw [e, List.length_append, ih, List.length_cons, h1, Nat.add_mul]
    omega
theorem flatC_snoc (l : List α) (x : α) : flatC f (l ++ [x]) = flatC f l ++ (f x).toList := by simp [flatC]
theorem flatC_at : ∀ (l : List α) (k j : Nat) (h : k < l.length), (∀ x ∈ l, (f x).size = m) → j < m → (flatC f l)[k * m + j]? = (f l[k])[j]?
  | [], _, _, h, _, _ => absurd h (by simp)
  | x :: l, 0, j, _, h, hj => by
    have e : flatC f (x :: l) = (f x).toList ++ flatC f l := rfl
    have h1 : (f x).toList.length = m := by rw [Array.length_toList, h x (by simp)]
    rw [e, List.getElem?_append_left (by omega)]
    simp
  | x :: l, k + 1, j, hk, h, hj => by
    have ih := flatC_at l k j (by simpa using hk) (fun y hy => h y (List.mem_cons_of_mem _ hy)) hj
    have e : flatC f (x :: l) = (f x).toList ++ flatC f l := rfl
    have h1 : (f x).toList.length = m := by rw [Array.length_toList, h x (by simp)]
    rw [e, List.getElem?_append_right (by rw [h1, Nat.add_mul]; omega), h1, show (k + 1) * m + j - m = k * m + j by rw [Nat.add_mul]; omega, ih]
    simp
theorem flatC_set : ∀ (l : List α) (k : Nat) (x : α), k < l.length → (∀ y ∈ l, (f y).size = m) → (f x).size = m →
    (flatC f l).take (k * m) ++ (f x).toList ++ (flatC f l).drop (k * m + (f x).toList.length) = flatC f (l.set k x)
  | [], _, _, h, _, _ => absurd h (by simp)
  | y :: l, 0, x, _, h, hx => by
    have e : flatC f (y :: l) = (f y).toList ++ flatC f l := rfl
    have h1 : (f y).toList.length = m := by rw [Array.length_toList, h y (by simp)]
    have h2 : (f x).toList.length = m := by rw [Array.length_toList, hx]
    rw [e, Nat.zero_mul, List.take_zero, h2, Nat.zero_add, List.drop_left' h1]
    rfl
  | y :: l, k + 1, x, hk, h, hx => by
    have ih := flatC_set l k x (by simpa using hk) (fun z hz => h z (List.mem_cons_of_mem _ hz)) hx
    have e : flatC f (y :: l) = (f y).toList ++ flatC f l := rfl
    have h1 : (f y).toList.length = m := by rw [Array.length_toList, h y (by simp)]
    have h2 : (f x).toList.length = m := by rw [Array.length_toList, hx]
    have e2 : flatC f ((y :: l).set (k + 1) x) = (f y).toList ++ flatC f (l.set k x) := rfl
    rw [e2, ← ih, e, h2, List.take_append, List.drop_append, h1, List.take_of_length_le (by rw [h1, Nat.add_mul]; omega), List.drop_of_length_le (by rw [h1, Nat.add_mul]; omega),
      show (k + 1) * m - m = k * m by rw [Nat.add_mul]; omega, show (k + 1) * m + m - m = k * m + m by rw [Nat.add_mul]; omega]
    simp only [List.append_assoc, List.nil_append]
end
/-! What writes make of sectors. -/
abbrev WrV := Nat × List UInt8
def appl (F : List (List UInt8)) (R : List WrV) : List (List UInt8) := R.foldl (fun S x => S.set x.1 x.2) F
theorem appl_nil (F : List (List UInt8)) : appl F [] = F := rfl
theorem appl_snoc (F : List (List UInt8)) (R : List WrV) (x : WrV) : appl F (R ++ [x]) = (appl F R).set x.1 x.2 := by simp [appl]
theorem appl_len : ∀ (R : List WrV) (F : List (List UInt8)), (appl F R).length = F.length
  | [], F => rfl
  | x :: R, F => by
    have ih := appl_len R (F.set x.1 x.2)
    simp only [appl, List.foldl_cons] at ih ⊢
    rw [ih, List.length_set]
theorem appl_all {P : List UInt8 → Prop} : ∀ (R : List WrV) (F : List (List UInt8)), (∀ D ∈ F, P D) → (∀ x ∈ R, P x.2) → ∀ D ∈ appl F R, P D
  | [], F, h, _ => h
  | x :: R, F, h, hr => by
    have ih := appl_all R (F.set x.1 x.2) (fun D hD => by
      rcases List.mem_or_eq_of_mem_set hD with h1 | h1
      · exact h D h1
      · rw [h1]; exact hr x (by simp)) (fun y hy => hr y (List.mem_cons_of_mem _ hy))
    simpa [appl] using ih
def wasL : List (List UInt8) → List WrV → List (Nat × List UInt8 × List UInt8)
  | _, [] => []
  | F, x :: R => (x.1, F.getD x.1 [], x.2) :: wasL (F.set x.1 x.2) R
theorem wasL_len : ∀ (R : List WrV) (F : List (List UInt8)), (wasL F R).length = R.length
  | [], F => rfl
  | x :: R, F => by simp [wasL, wasL_len R]
theorem wasL_snoc : ∀ (R : List WrV) (F : List (List UInt8)) (x : WrV), wasL F (R ++ [x]) = wasL F R ++ [(x.1, (appl F R).getD x.1 [], x.2)]
  | [], F, x => rfl
  | y :: R, F, x => by
    have ih := wasL_snoc R (F.set y.1 y.2) x
    simp only [List.cons_append, wasL, ih]
    simp [appl]
theorem wasL_at : ∀ (R : List WrV) (F : List (List UInt8)) (k : Nat) (h : k < R.length), (wasL F R)[k]? = some (R[k].1, (appl F (R.take k)).getD R[k].1 [], R[k].2)
  | [], _, _, h => absurd h (by simp)
  | x :: R, F, 0, _ => rfl
  | x :: R, F, k + 1, h => by
    have ih := wasL_at R (F.set x.1 x.2) k (by simpa using h)
    simp only [wasL, List.getElem?_cons_succ, ih, List.getElem_cons_succ, List.take_succ_cons]
    simp [appl]
theorem set_back (F : List (List UInt8)) (i : Nat) (D : List UInt8) (h : i < F.length) : (F.set i D).set i (F.getD i []) = F := by
  rw [List.set_set]
  apply List.ext_getElem?
  intro j
  rw [List.getElem?_set]
  by_cases hij : i = j
  · subst hij
    simp [List.getD, h]
  · rw [if_neg hij]
theorem undo (F : List (List UInt8)) (R : List WrV) (k : Nat) (h : k < R.length) (hk : R[k].1 < F.length) : (appl F (R.take (k + 1))).set R[k].1 ((appl F (R.take k)).getD R[k].1 []) = appl F (R.take k) := by
  rw [List.take_succ_eq_append_getElem h, appl_snoc]
  exact set_back _ _ _ (by rw [appl_len]; exact hk)
/-- Of loose writes those that stay. -/
def kept : List WrV → List Bool → List WrV
  | x :: R, b :: S => (if b = true then [x] else []) ++ kept R S
  | _, _ => []
theorem kept_nil (S : List Bool) : kept [] S = [] := by cases S <;> rfl
theorem kept_none (R : List WrV) : kept R [] = [] := by cases R <;> rfl
theorem kept_take : ∀ (R : List WrV) (S : List Bool) (k : Nat) (h : k < R.length), kept (R.take (k + 1)) S = kept (R.take k) S ++ (if S.getD k false = true then [R[k]] else [])
  | [], _, _, h => absurd h (by simp)
  | x :: R, [], k, h => by simp [kept_none]
  | x :: R, b :: S, 0, _ => by
    simp [kept, kept_nil]
  | x :: R, b :: S, k + 1, h => by
    have ih := kept_take R S k (by simpa using h)
    simp only [List.take_succ_cons, kept, ih, List.getElem_cons_succ, List.append_assoc]
    simp [List.getD]
    rfl
theorem kept_short : ∀ (R : List WrV) (S : List Bool) (k : Nat), S.length ≤ k → kept (R.take k) S = kept R S
  | [], S, k, _ => by simp
  | x :: R, [], k, _ => by simp [kept_none]
  | x :: R, b :: S, 0, h => absurd h (by simp)
  | x :: R, b :: S, k + 1, h => by
    have ih := kept_short R S k (by simpa using h)
    simp [kept, ih]
theorem kept_mem : ∀ (R : List WrV) (S : List Bool) (x : WrV), x ∈ kept R S → x ∈ R
  | [], S, x, h => by simp [kept_nil] at h
  | y :: R, [], x, h => by simp [kept_none] at h
  | y :: R, b :: S, x, h => by
    simp only [kept, List.mem_append] at h
    rcases h with h | h
    · split at h
      · simp at h; simp [h]
      · cases h
    · exact List.mem_cons_of_mem _ (kept_mem R S x h)
/-! What a call leaves of all blocks but those of some types. -/
def UnT (T : List TypeId) (w w' : World) : Prop := w.heap.size ≤ w'.heap.size ∧ ∀ k, k < w.heap.size → (∀ cs t fz, w.heap[k]? = some (.cells cs t fz) → t ∉ T) → w'.heap[k]? = w.heap[k]?
section
variable {w w' w2 : World} {T : List TypeId} {g : Nat} {t : TypeId} {cs : Array Value}
theorem UnT.refl (T : List TypeId) (w : World) : UnT T w w := ⟨Nat.le_refl _, fun _ _ _ => rfl⟩
theorem UnT.trans (h : UnT T w w') (h2 : UnT T w' w2) : UnT T w w2 :=
  ⟨Nat.le_trans h.1 h2.1, fun k hk ht => by
    have e := h.2 k hk ht
    exact (h2.2 k (Nat.lt_of_lt_of_le hk h.1) (fun cs t fz hc => ht cs t fz (e ▸ hc))).trans e⟩
theorem UnT.of_below (h : Below w.heap.size w w') : UnT T w w' := ⟨h.size, fun k hk _ => h.block k hk⟩
theorem UnT.of_grown {row : Option Nat} (h : w.grownBy w' row) (hr : ∀ k, row = some k → ∃ cs t fz, w.heap[k]? = some (.cells cs t fz) ∧ t ∈ T) : UnT T w w' :=
  ⟨h.size, fun k hk ht => h.block k hk fun e => by
    obtain ⟨cs, t, fz, h1, h2⟩ := hr k e.symm
    exact ht cs t fz h1 h2⟩
theorem Bk.unt (h : Bk w g t cs) (hu : UnT T w w') (ht : t ∉ T) : Bk w' g t cs := (hu.2 g h.lt (fun cs' t' fz e => by
  have h1 := h
  unfold Bk at h1
  rw [h1] at e
  injection e with e
  injection e with _ e2 _
  rw [← e2]
  exact ht)).trans h
theorem ownsRow_heapk {base size n : Nat} {e : TypeId} {v : Value} {xs : List Value} (h : w.ownsRow base e size v n xs) (hg : ∀ g, v.ownBlock = some g → w'.heap[g]? = w.heap[g]?) : w'.ownsRow base e size v n xs := by
  refine ⟨h.1, ?_⟩
  rcases h.2 with h2 | ⟨g, cap, cur, hv, hb, hh, rest⟩
  · exact .inl h2
  · exact .inr ⟨g, cap, cur, hv, hb, (hg g (by rw [hv]; rfl)).trans hh, rest⟩
theorem ownsRow_ty {base size n : Nat} {e : TypeId} {v : Value} {xs : List Value} (h : w.ownsRow base e size v n xs) : ∀ g, v.ownBlock = some g → base ≤ g ∧ g < w.heap.size ∧ ∃ cs, w.heap[g]? = some (.cells cs e (0, 0)) := fun g hg => by
  have hlt := World.ownsRow.lt h g hg
  rcases h.2 with ⟨hv, _⟩ | ⟨g', cap, cur, hv, _, hh, _⟩
  · subst hv; cases hg
  · subst hv
    injection hg with hg
    simp only at hg
    subst hg
    exact ⟨hlt.1, hlt.2, cur, hh⟩
theorem ownsRow_unt {base size n : Nat} {e : TypeId} {v : Value} {xs : List Value} (h : w.ownsRow base e size v n xs) (hu : UnT T w w') (ht : e ∉ T) : w'.ownsRow base e size v n xs := ownsRow_heapk h fun g hg => by
  obtain ⟨_, hlt, cs, hh⟩ := ownsRow_ty h g hg
  refine hu.2 g hlt fun cs' t' fz e2 => ?_
  rw [hh] at e2
  injection e2 with e2
  injection e2 with _ e3 _
  rw [← e3]
  exact ht
theorem Bk.neT {a b : Nat} {t' : TypeId} {cs' : Array Value} (h : Bk w a t cs) (h' : Bk w b t' cs') (ht : t ≠ t') : a ≠ b := by
  rintro rfl
  have e := Option.some.inj ((show w.heap[a]? = some (.cells cs t (0, 0)) from h).symm.trans (show w.heap[a]? = some (.cells cs' t' (0, 0)) from h'))
  injection e with _ e2 _
  exact ht e2
theorem Bk.neRow {base size n : Nat} {e : TypeId} {v : Value} {xs : List Value} (h : Bk w g t cs) (ho : w.ownsRow base e size v n xs) (ht : t ≠ e) : some g ≠ v.ownBlock := fun hg => by
  obtain ⟨_, _, cs', hh⟩ := ownsRow_ty ho g hg.symm
  exact h.neT (show Bk w g e cs' from hh) ht rfl
end
/-! Cells stored into the middle of a block. -/
theorem setRow_grown (w : World) (g : Nat) (cs : Array Value) : w.grownBy (w.setRow g cs) (some g) :=
  ⟨rfl, rfl, rfl, by simp [World.setRow], fun i hi hne => setRow_other w g i cs (fun e => hne (by rw [e]))⟩
theorem run_storeVar_mid {P : Program} {w : World} {g : Nat} {t : TypeId} {cs : Array Value} (hb : Bk w g t cs) (ty : TypeId) (o : Nat) (vs : Array Value) (hi : (P.info? ty).map (·.size) = some vs.size) (hl : o + vs.size ≤ cs.size) (h1 : ∀ v ∈ vs.toList, v.oneCell' = true) :
    (storeVar ty ⟨g, o, none⟩ (.agg vs)).run P w = .ok () (w.setRow g (cs.toList.take o ++ vs.toList ++ cs.toList.drop (o + vs.toList.length)).toArray) := by
  obtain ⟨i, hi1, hi2⟩ := Option.map_eq_some_iff.1 hi
  have h := storeCells_mark P g o t (0, 0) vs.toList 0 cs w hb (fun j _ hc => by simp only at hc; omega) (by simpa using hl) h1
  simp only [Nat.add_zero] at h
  simp [storeVar, sizeOf, typeInfo, hi1, hi2, Value.cells, Sem.run_bind, h]
theorem rowOf_ones (D : List UInt8) : ∀ u ∈ (rowOf D).toList, u.oneCell' = true := fun u hu => by
  simp [rowOf] at hu
  obtain ⟨b, _, rfl⟩ := hu
  rfl
end Go.Proofs.Ytibnfldddpmafaa
