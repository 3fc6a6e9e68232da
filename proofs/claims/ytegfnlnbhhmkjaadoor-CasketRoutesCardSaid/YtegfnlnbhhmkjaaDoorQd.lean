/-
  A region that draws its order, walked stage by stage: in each stage the operations read, or call what leaves a world of one class behind; between the stages stand operations that come up alone. The order of the text serves every order.
-/
import Derived.Test.YtegfnlnbhhmkjaaDoorQc
import Derived.RegionTactic
namespace Go.Proofs.YtegfnlnbhhmkjaaDoor
set_option maxRecDepth 100000
section
variable {P : Program} {ops : Array Oper} {md : Region.Mode} {C : World → Prop}

/-- From n on each operation waits for the one just ahead of n, or for an elder one of those from n on. -/
def frontB (md : Region.Mode) (ops : Array Oper) (n : Nat) : Bool :=
  (List.range ops.size).all fun t => decide (t < n) || Region.waitsFor md ops t (n - 1) || (List.range t).any fun s => decide (n ≤ s) && Region.waitsFor md ops t s
/-- All from n on wait till all ahead of n are done. -/
def neckB (md : Region.Mode) (ops : Array Oper) (n : Nat) : Bool := decide (ops.size ≤ n) || (decide (0 < n) && Region.sinkB md ops (n - 1) && frontB md ops n)
def invB (md : Region.Mode) (ops : Array Oper) (n : Nat) (listed : Array Bool) : Bool :=
  decide (listed.size = ops.size) &&
  ((List.range ops.size).all fun j => match ops[j]? with | some oj => !listed.getD j false || oj.after.all (fun e => !Region.binds md e || listed.getD e.on false) | none => true) &&
  ((List.range ops.size).all fun t => decide (t < n) || !listed.getD t true)
theorem inv_spec {n : Nat} {listed : Array Bool} (h : invB md ops n listed = true) : HeadInv md ops n listed := by
  simp only [invB, Bool.and_eq_true, decide_eq_true_eq] at h
  obtain ⟨⟨h1, h2⟩, h3⟩ := h
  refine ⟨h1, fun j oj hj hl e he hb => ?_, fun t ht htl => ?_⟩
  · have hjs := (Array.getElem?_eq_some_iff.1 hj).1
    have := List.all_eq_true.1 h2 j (List.mem_range.2 hjs)
    rw [hj] at this
    simp only [hl, Bool.not_true, Bool.false_or] at this
    have h4 := (Array.all_eq_true'.1 this) e he
    rw [hb] at h4
    simpa using h4
  · have := List.all_eq_true.1 h3 t (List.mem_range.2 htl)
    simp only [Bool.or_eq_true, decide_eq_true_eq, Bool.not_eq_true'] at this
    rcases this with h | h
    · omega
    · exact h

theorem sink_open {m : Nat} {listed : Array Bool} (hs : Region.sinkB md ops m = true) (hsz : listed.size = ops.size) (hm : m < ops.size) (hcl : ∀ j oj, ops[j]? = some oj → listed.getD j false = true → ∀ e ∈ oj.after, Region.binds md e = true → listed.getD e.on false = true) :
    ∀ (d i : Nat), m - i = d → i ≤ m → listed.getD i true = false → listed.getD m true = false := by
  intro d
  induction d using Nat.strongRecOn with
  | _ d ih =>
    intro i hd hi hun
    by_cases him : i = m
    · subst him; exact hun
    · have h1 := List.all_eq_true.1 hs i (List.mem_range.2 (by omega))
      obtain ⟨j, hj, hj2⟩ := List.any_eq_true.1 h1
      simp only [Bool.and_eq_true, decide_eq_true_eq] at hj2
      obtain ⟨oj, hoj, e, he, hb, hon⟩ := Region.waitsFor_spec hj2.2
      have hjle : j ≤ m := by have := List.mem_range.1 hj; omega
      cases hl : listed.getD j false with
      | true =>
        have h2 := hcl j oj hoj hl e he hb
        rw [hon, getD_both hun] at h2
        cases h2
      | false => exact ih (m - j) (by omega) j rfl hjle (getD_in (by omega) hl)
theorem neck_waits {n : Nat} {listed : Array Bool} (hk : neckB md ops n = true) (inv : HeadInv md ops n listed) (i : Nat) (hi : i < n) (hun : listed.getD i true = false) : ∀ t, n ≤ t → t ∉ Region.ready md ops listed := by
  intro t ht hr
  obtain ⟨_, ot, hot, hall⟩ := mem_ready.1 hr
  have htlt : t < ops.size := (Array.getElem?_eq_some_iff.1 hot).1
  simp only [neckB, Bool.or_eq_true, decide_eq_true_eq, Bool.and_eq_true] at hk
  rcases hk with hk | ⟨⟨hn0, hs⟩, hc⟩
  · omega
  have hlast := sink_open hs inv.size (by omega) inv.closed _ i rfl (by omega) hun
  have h1 := List.all_eq_true.1 hc t (List.mem_range.2 htlt)
  simp only [Bool.or_eq_true, decide_eq_true_eq] at h1
  rcases h1 with (h1 | h1) | h1
  · omega
  · obtain ⟨o', ho', e, he, hb, hon⟩ := Region.waitsFor_spec h1
    have : o' = ot := Option.some.inj (ho'.symm.trans hot)
    subst this
    have h2 := hall e he hb
    rw [hon, getD_both hlast] at h2
    cases h2
  · obtain ⟨s, hs1, hs2⟩ := List.any_eq_true.1 h1
    simp only [Bool.and_eq_true, decide_eq_true_eq] at hs2
    have hst := List.mem_range.1 hs1
    obtain ⟨o', ho', e, he, hb, hon⟩ := Region.waitsFor_spec hs2.2
    have : o' = ot := Option.some.inj (ho'.symm.trans hot)
    subst this
    have h2 := hall e he hb
    rw [hon, getD_both (inv.tail s hs2.1 (by omega))] at h2
    cases h2

theorem stage_first {n i : Nat} {oi : Oper} {v : Value} {L : Array Bool → Act → Prop} (hi : ops[i]? = some oi) (hsel : ∀ (j : Nat) (o : Oper) cs b, ops[j]? = some o → o.op ≠ .select cs b)
    (hk : neckB md ops n = true) (hin : i < n) (hdone : ∀ listed a, L listed a → ∀ j ∈ Region.ready md ops listed, n ≤ j) :
    ∀ (f : Nat) (listed : Array Bool) (a : Act), HeadInv md ops n listed →
      (∀ j oj, ops[j]? = some oj → j ≠ i → listed.getD j true = false → (∀ e ∈ oj.after, Region.binds md e = true → e.on ≠ i) → oi.apart ops oj = true) →
      i ∈ Region.ready md ops listed → YieldsIn P ops C oi v a →
      headAny P md ops C n L f (listed.setIfInBounds i true) (a.put oi.dst v) → headAny P md ops C n L (f + 1) listed a := by
  intro f
  induction f with
  | zero =>
    intro listed a inv _ hr hy H
    have hun := (mem_ready.1 hr).1
    refine ⟨fun h => (by rw [h] at hr; cases hr), fun j hj => ?_⟩
    have hjn : j < n := (Nat.lt_or_ge j n).elim id fun h => absurd hj (neck_waits hk inv i hin hun j h)
    refine ⟨hjn, ?_⟩
    by_cases hji : j = i
    · subst hji; exact hy.qOp hi H
    · have := hdone _ _ H j (ready_mono hj hji)
      omega
  | succ f ih =>
    intro listed a inv hfree hr hy H
    have hun := (mem_ready.1 hr).1
    refine ⟨fun h => (by rw [h] at hr; cases hr), fun j hj => ?_⟩
    have hjn : j < n := (Nat.lt_or_ge j n).elim id fun h => absurd hj (neck_waits hk inv i hin hun j h)
    refine ⟨hjn, ?_⟩
    by_cases hji : j = i
    · subst hji; exact hy.qOp hi H
    · have h1 := (H.2 j (ready_mono hj hji)).2
      obtain ⟨hjun, oj, hoj, hall⟩ := mem_ready.1 hj
      have hnot : ∀ e ∈ oj.after, Region.binds md e = true → e.on ≠ i := fun e he hb heq => by
        have h1 := hall e he hb
        rw [heq, getD_both hun] at h1
        cases h1
      have h2 := qOp_put hoj (hfree j oj hoj hji hjun hnot) (fun cs b => hsel i oi cs b hi) (fun cs b => hsel j oj cs b hoj) hy h1
      have hfree' : ∀ k ok, ops[k]? = some ok → k ≠ i → (listed.setIfInBounds j true).getD k true = false →
          (∀ e ∈ ok.after, Region.binds md e = true → e.on ≠ i) → oi.apart ops ok = true := fun k ok hk hki hun hno => by
        refine hfree k ok hk hki ?_ hno
        by_cases hjk : j = k
        · subst hjk; exact hjun
        · rw [getD_set_ne true hjk] at hun; exact hun
      refine qOp_mono (fun a' h3 => ih (listed.setIfInBounds j true) a' (inv.set hj hjn) hfree' (ready_mono hr (Ne.symm hji)) h3.1 ?_) h2
      rw [Array.setIfInBounds_comm _ _ hji]
      exact h3.2

/-- Listed, behind so many more. -/
def setsFrom : Nat → Nat → Array Bool → Array Bool
  | 0, _, listed => listed
  | f + 1, k, listed => setsFrom f (k + 1) (listed.setIfInBounds k true)
def stageB (md : Region.Mode) (ops : Array Oper) (n : Nat) : Nat → Nat → Array Bool → Bool
  | 0, _, listed => (Region.ready md ops listed).all fun j => decide (n ≤ j)
  | f + 1, k, listed => (Region.ready md ops listed).contains k && Region.free md ops listed k && stageB md ops n f (k + 1) (listed.setIfInBounds k true)
theorem stage_end {n : Nat} : ∀ (f k : Nat) (listed : Array Bool), stageB md ops n f k listed = true → ∀ j ∈ Region.ready md ops (setsFrom f k listed), n ≤ j
  | 0, _, _, h, j, hj => by
    have := List.all_eq_true.1 h j hj
    simpa using this
  | f + 1, k, listed, h, j, hj => by
    simp only [stageB, Bool.and_eq_true] at h
    exact stage_end f (k + 1) _ h.2 j hj
theorem stage_lex {n : Nat} {Lq : Act → Prop} {X : Array Bool} (hsel : Region.noSelect ops = true) (hk : neckB md ops n = true) :
    ∀ (l : List Oper) (k : Nat) (listed : Array Bool) (a : Act), (∀ j, j < l.length → l[j]? = ops[k + j]?) → k + l.length = n → HeadInv md ops n listed → setsFrom l.length k listed = X → (∀ j ∈ Region.ready md ops X, n ≤ j) →
    stageB md ops n l.length k listed = true → wpQuiet P ops C Lq l a →
    headAny P md ops C n (fun listed' a' => listed' = X ∧ Lq a') l.length listed a
  | [], k, listed, a, _, hk', _, hX, _, hB, h => ⟨hX, h⟩
  | o :: l, k, listed, a, hl, hk', inv, hX, hXr, hB, h => by
    have h0 : ops[k]? = some o := by simpa using (hl 0 (by simp)).symm
    simp only [List.length_cons, stageB, Bool.and_eq_true] at hB
    obtain ⟨⟨hr, hf⟩, hB'⟩ := hB
    have hkn : k < n := by simp only [List.length_cons] at hk'; omega
    have hr' : k ∈ Region.ready md ops listed := by simpa using hr
    have hst : qOp P ops C k (wpQuiet P ops C Lq l) a := by unfold qOp; simp only [h0]; exact h
    obtain ⟨v, hy, hK⟩ := yieldsIn_of_qOp h0 hst
    exact stage_first h0 (Region.noSelect_spec hsel) hk hkn (fun listed' a' hL => by rw [hL.1]; exact hXr) l.length listed a inv (Region.free_spec h0 hf) hr' hy
      (stage_lex hsel hk l (k + 1) _ _ (fun j hj => by have := hl (j + 1) (by simp; omega); simpa [Nat.add_assoc, Nat.add_comm 1 j] using this) (by simp only [List.length_cons] at hk'; omega) (inv.set hr' hkn) hX hXr hB' hK)

/-- A stage: the operations from k on, n excluded. -/
theorem wpAny_stage {n k f g : Nat} {Q : Exit → Act → World → Prop} {Lq : Act → Prop} {listed : Array Bool} {a : Act} {w : World} (hn : k + f = n) (hns : n ≤ ops.size)
    (hsel : Region.noSelect ops = true) (hk : neckB md ops n = true) (hinv : invB md ops n listed = true) (hst : stageB md ops n f k listed = true)
    (hC : C w) (h : wpQuiet P ops C Lq ((ops.toList.drop k).take f) a) (hnext : ∀ a' w', C w' → Lq a' → wpAny P md ops Q g (setsFrom f k listed) a' w') : wpAny P md ops Q (f + g) listed a w := by
  have hf : ((ops.toList.drop k).take f).length = f := by
    rw [List.length_take, List.length_drop, Array.length_toList]
    omega
  have hlo : ∀ j, j < ((ops.toList.drop k).take f).length → ((ops.toList.drop k).take f)[j]? = ops[k + j]? := fun j hj => by
    rw [hf] at hj
    simp [hj]
  have hst' := hst
  rw [← hf] at hst
  have := stage_lex (Lq := Lq) hsel hk ((ops.toList.drop k).take f) k listed a hlo (by rw [hf]; exact hn) (inv_spec hinv) rfl (stage_end _ _ _ hst) hst h
  rw [hf] at this
  exact any_of_head (fun listed' a' w' hw' hL => by rw [hL.1]; exact hnext a' w' hw' hL.2) _ _ _ _ hC this
/-- The same, what follows told inside. -/
theorem wpAny_quiet (n k f g : Nat) {Q : Exit → Act → World → Prop} {listed : Array Bool} {a : Act} {w : World} (hn : k + f = n) (hns : decide (n ≤ ops.size) = true)
    (hsel : Region.noSelect ops = true) (hk : neckB md ops n = true) (hinv : invB md ops n listed = true) (hst : stageB md ops n f k listed = true)
    (hC : C w) (h : wpQuiet P ops C (fun a' => ∀ w', C w' → wpAny P md ops Q g (setsFrom f k listed) a' w') ((ops.toList.drop k).take f) a) : wpAny P md ops Q (f + g) listed a w :=
  wpAny_stage hn (of_decide_eq_true hns) hsel hk hinv hst hC h fun _ w' hw ha => ha w' hw
/-- What is left comes in one order alone. -/
theorem wpAny_rest (k f : Nat) {Q : Exit → Act → World → Prop} {listed : Array Bool} {a : Act} {w : World} (hf : decide (ops.size - k = f) = true) (hB : Region.seqB md ops f k listed = true)
    (h : wpList P ops Q (ops.toList.drop k) a w) : wpAny P md ops Q f listed a w := by
  have hl : (ops.toList.drop k).length = f := by
    rw [List.length_drop, Array.length_toList]
    exact of_decide_eq_true hf
  have := wpAny_of_seq (md := md) (Q' := Q) (ops.toList.drop k) k listed a w (fun j => by simp [List.getElem?_drop]) (by rw [hl]; exact hB) h
  rwa [hl] at this
end
end Go.Proofs.YtegfnlnbhhmkjaaDoor
