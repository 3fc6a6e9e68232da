/-
  What Add comes to is one thing alone; a result and an error, taken into a new variable and an old one, in a region that draws its order.
-/
import Derived.Test.YtjflmfmncepeeaaJd
namespace Go.Proofs.Ytjflmfmncepeeaa
open Go.ChangeShapes Go.WideShapes Go.ChangeAt Go.RowKit
set_option linter.unusedVariables false
set_option linter.unusedSimpArgs false

def insD (x : DotV) : List DotV → List DotV
  | [] => [x]
  | y :: l => if Ltd y x then y :: insD x l else x :: y :: l
def sortD : List DotV → List DotV
  | [] => []
  | x :: l => insD x (sortD l)
theorem insD_perm (x : DotV) : ∀ l, (insD x l).Perm (x :: l)
  | [] => List.Perm.refl _
  | y :: l => by
    rw [insD]
    split
    · exact ((insD_perm x l).cons y).trans (List.Perm.swap x y l)
    · exact List.Perm.refl _
theorem sortD_perm : ∀ l, (sortD l).Perm l
  | [] => List.Perm.refl _
  | x :: l => (insD_perm x (sortD l)).trans ((sortD_perm l).cons x)
theorem insD_sorted (x : DotV) : ∀ l : List DotV, l.Pairwise (fun a b => ¬ Ltd b a) → (insD x l).Pairwise (fun a b => ¬ Ltd b a)
  | [], _ => List.pairwise_singleton _ _
  | y :: l, h => by
    rw [List.pairwise_cons] at h
    rw [insD]
    split
    · rename_i hy
      rw [List.pairwise_cons]
      refine ⟨fun z hz => ?_, insD_sorted x l h.2⟩
      rcases List.mem_cons.1 ((insD_perm x l).mem_iff.1 hz) with e | e
      · subst e; intro g; exact Ltd.irrefl (hy.trans g)
      · exact h.1 z e
    · rename_i hy
      rw [List.pairwise_cons, List.pairwise_cons]
      refine ⟨fun z hz => ?_, h⟩
      rcases List.mem_cons.1 hz with e | e
      · subst e; exact hy
      · intro g
        have := h.1 z e
        unfold Ltd at *
        omega
theorem sortD_sorted : ∀ l, (sortD l).Pairwise (fun a b => ¬ Ltd b a)
  | [] => List.Pairwise.nil
  | x :: l => insD_sorted x _ (sortD_sorted l)
theorem ofX_ex {up : List Int} {ms : List DotV} (hu : Up16 up) (hd : ∀ d ∈ ms, isD d = true) : ∃ st, OfX up ms st := by
  refine ⟨_, ofX_of hu (sortD_perm ms) hd _ rfl fun i j hij hj => ?_⟩
  have hl := (sortD_perm ms).length_eq
  have := (List.pairwise_iff_getElem.1 (sortD_sorted ms)) i j (by omega) (by omega) hij
  rw [ltD]
  refine decide_eq_false ?_
  simp only [List.getD, List.getElem?_eq_getElem (show i < (sortD ms).length by omega), List.getElem?_eq_getElem (show j < (sortD ms).length by omega), Option.getD_some]
  exact this
/-- What is in the form came from the dots, where all numbers up to nought are in no set. -/
theorem sub_len : ∀ {a b : List DotV}, a.Pairwise Ltd → (∀ d ∈ a, d ∈ b) → a.length ≤ b.length
  | [], b, _, _ => Nat.zero_le _
  | x :: a, b, h, hs => by
    rw [List.pairwise_cons] at h
    have hx := hs x (List.mem_cons_self ..)
    have ih := sub_len (b := b.erase x) h.2 fun d hd => by
      have hne : d ≠ x := fun e => by subst e; exact Ltd.irrefl (h.1 d hd)
      exact (List.mem_erase_of_ne hne).2 (hs d (List.mem_cons_of_mem _ hd))
    have := List.length_erase_of_mem hx
    have := List.length_pos_of_mem hx
    simp only [List.length_cons]
    omega
theorem ofX_mem {up : List Int} {ms : List DotV} {st : List Int × List DotV} (h : OfX up ms st) (hu : Up16 up) : ∀ d ∈ st.2, d ∈ ms := fun d hd => by
  obtain ⟨hc, hi⟩ := h
  have hD := hc.dots d hd
  have hf := hc.far d hd
  rcases (hi d hD).1 (.inr hd) with g | g
  · exfalso
    have h6 := isD_iff.1 hD
    have b0 := hc.up16.2 (d.c - 1).toNat
    have hq : isD ⟨d.c, st.1.getD (d.c - 1).toNat 0 + 1⟩ = true := isD_iff.2 ⟨h6.1, by simp only; omega, by simp only; omega⟩
    rcases (hi _ hq).2 (.inl (by simp only; omega)) with k | k
    · simp only at k; omega
    · have := hc.far _ k
      simp only at this; omega
  · exact g
theorem ofX_len {up : List Int} {ms : List DotV} {st : List Int × List DotV} (h : OfX up ms st) (hu : Up16 up) : st.2.length ≤ ms.length :=
  sub_len h.1.sorted (ofX_mem h hu)
theorem resV_ex {up : List Int} {ms : List DotV} (hu : Up16 up) (hd : ∀ d ∈ ms, isD d = true) : ∃ u m z, ResV up ms u m z := by
  obtain ⟨st, h⟩ := ofX_ex hu hd
  rcases Nat.lt_or_ge 32 st.2.length with hl | hl
  · exact ⟨_, _, _, st, h, .inl ⟨hl, rfl, rfl, rfl⟩⟩
  · exact ⟨_, _, _, st, h, .inr ⟨hl, rfl, rfl, rfl⟩⟩
theorem resV_one {up : List Int} {ms : List DotV} {u u' : List Int} {m m' : List DotV} {z z' : Int} (h : ResV up ms u m z) (h' : ResV up ms u' m' z') : u = u' ∧ m = m' ∧ z = z' := by
  obtain ⟨st, h1, h2⟩ := h
  obtain ⟨st', h1', h2'⟩ := h'
  obtain rfl := h1.one h1' fun d _ => Iff.rfl
  rcases h2 with ⟨a, rfl, rfl, rfl⟩ | ⟨a, rfl, rfl, rfl⟩ <;> rcases h2' with ⟨b, rfl, rfl, rfl⟩ | ⟨b, rfl, rfl, rfl⟩
  · exact ⟨rfl, rfl, rfl⟩
  · omega
  · omega
  · exact ⟨rfl, rfl, rfl⟩
theorem addV_ex (up : List Int) (hu : up.length = 16) (ms : List DotV) (d : DotV) : ∃ u m z, AddV up ms d u m z := by
  by_cases h : chk up ms = 0 ∧ isD d = true
  · have hc := (chk_can hu h.1).1
    obtain ⟨u, m, z, hr⟩ := resV_ex (ms := ms ++ [d]) hc.up16 fun x hx => by
      rcases List.mem_append.1 hx with g | g
      · exact hc.dots x g
      · rw [List.mem_singleton] at g; subst g; exact h.2
    exact ⟨u, m, z, .inr ⟨h, hr⟩⟩
  · refine ⟨_, _, _, .inl ⟨?_, rfl, rfl, rfl⟩⟩
    by_cases h1 : chk up ms = 0
    · right
      cases h2 : isD d with
      | false => rfl
      | true => exact absurd ⟨h1, h2⟩ h
    · exact .inl h1
theorem addV_one {up : List Int} {ms : List DotV} {d : DotV} {u u' : List Int} {m m' : List DotV} {z z' : Int} (h : AddV up ms d u m z) (h' : AddV up ms d u' m' z') : u = u' ∧ m = m' ∧ z = z' := by
  rcases h with ⟨h0, rfl, rfl, rfl⟩ | ⟨h0, h⟩ <;> rcases h' with ⟨h0', rfl, rfl, rfl⟩ | ⟨h0', h'⟩
  · exact ⟨rfl, rfl, rfl⟩
  · rcases h0 with g | g
    · exact absurd h0'.1 g
    · rw [h0'.2] at g; cases g
  · rcases h0' with g | g
    · exact absurd h0.1 g
    · rw [h0.2] at g; cases g
  · exact resV_one h h'
/-- Two results that are known but for where they lie. -/
def TwoV (u : List Int) (m : List DotV) (z : Int) (w : World) (e : Ending) (w' : World) : Prop :=
  ∃ A c, e = .returned (TwoX u A m c z) ∧ RdD w' w'.heap.size A m ∧ (∀ y, A = some y → w.heap.size ≤ y.block) ∧ m.length ≤ c ∧ c ≤ 9223372036854775807 ∧ Below w.heap.size w w'
theorem add_v (w : World) (up : List Int) (hu : up.length = 16) (A : Option Addr) (n c : Nat) (ms : List DotV) (hn : ms.length = n) (hn6 : n ≤ 900000) (hc : n ≤ c) (hr : RdD w w.heap.size A ms) (d : DotV) {u : List Int} {m : List DotV} {z : Int} (hv : AddV up ms d u m z) :
    Calls Try.prog 26 #[.agg (ctxRow up A n c), .agg d.row] w (TwoV u m z w) := by
  refine (add_any w up hu A n c ms hn hn6 hc hr d).mono ?_
  rintro e w' ⟨u', m', A', c', z', rfl, h1, h2, h3, h4, h5, h6, h7⟩
  obtain ⟨rfl, rfl, rfl⟩ := addV_one h6 hv
  exact ⟨A', c', rfl, h1, h2, h3, h4, h7⟩

structure RxJ (B : Nat) (u : List Int) (m : List DotV) (z : Int) (x mv s0 s1 al st ae : Bool) (vx vm v0 v1 va vr : Value) (W : World) : Prop where
  hs : (mv = true → x = true) ∧ (s0 = true → mv = true) ∧ (s1 = true → mv = true) ∧ (st = true → s0 = true ∧ al = true) ∧ (ae = true → s1 = true)
  ex : ∃ A c q X, (x = true → vx = TwoX u A m c z ∧ RdD W W.heap.size A m ∧ (∀ y, A = some y → B ≤ y.block) ∧ m.length ≤ c ∧ c ≤ 9223372036854775807) ∧ (mv = true → vm = TwoX u A m c z) ∧ (s0 = true → v0 = .agg (ctxRow u A m.length c)) ∧ (s1 = true → v1 = .int .i64 z) ∧ (ae = true → vr = .int .i64 z) ∧
    (al = true → va = .pointer (some ⟨q, 0, none⟩) ∧ B ≤ q ∧ Bk W q 29 X ∧ X.size = 17) ∧ (st = true → X = ctxRow u A m.length c) ∧ (x = true → al = true → 0 < m.length → ∀ b off, A = some ⟨b, off, none⟩ → b ≠ q)
section
variable {B : Nat} {u : List Int} {m : List DotV} {z : Int} {x mv s0 s1 al st ae : Bool} {vx vm v0 v1 va vr : Value} {W W' : World}
theorem RxJ.start : RxJ B u m z false false false false false false false vx vm v0 v1 va vr W :=
  ⟨⟨fun e => Bool.noConfusion e, fun e => Bool.noConfusion e, fun e => Bool.noConfusion e, fun e => Bool.noConfusion e, fun e => Bool.noConfusion e⟩, none, 0, 0, #[], fun e => Bool.noConfusion e, fun e => Bool.noConfusion e, fun e => Bool.noConfusion e, fun e => Bool.noConfusion e, fun e => Bool.noConfusion e, fun e => Bool.noConfusion e, fun e => Bool.noConfusion e, fun e => Bool.noConfusion e⟩
theorem RxJ.keep (h : RxJ B u m z x mv s0 s1 al st ae vx vm v0 v1 va vr W) (hw : Below W.heap.size W W') : RxJ B u m z x mv s0 s1 al st ae vx vm v0 v1 va vr W' := by
  obtain ⟨hs, A, c, q, X, h1, h2, h3, h4, h5, h6, h7, h8⟩ := h
  refine ⟨hs, A, c, q, X, fun e => ?_, h2, h3, h4, h5, fun e => ?_, h7, h8⟩
  · obtain ⟨a1, a2, a3⟩ := h1 e
    exact ⟨a1, (a2.below hw).more hw.size, a3⟩
  · obtain ⟨a1, a2, a3, a4⟩ := h6 e
    exact ⟨a1, a2, a3.below hw a3.lt, a4⟩
theorem RxJ.to_x (h : RxJ B u m z x mv s0 s1 al st ae vx vm v0 v1 va vr W) (hx : x = false) {A : Option Addr} {c : Nat} (hw : Below W.heap.size W W') (hB : B ≤ W.heap.size) (h1 : RdD W' W'.heap.size A m) (h2 : ∀ y, A = some y → W.heap.size ≤ y.block) (h3 : m.length ≤ c) (h4 : c ≤ 9223372036854775807) : RxJ B u m z true mv s0 s1 al st ae (TwoX u A m c z) vm v0 v1 va vr W' := by
  obtain ⟨⟨b1, b2, b3, b4, b5⟩, A0, c0, q, X, k1, k2, k3, k4, k5, k6, k7, k8⟩ := h
  have f1 : mv = true → False := fun e => by have := b1 e; rw [hx] at this; cases this
  refine ⟨⟨fun _ => rfl, b2, b3, b4, b5⟩, A, c, q, X, fun _ => ⟨rfl, h1, fun y hy => by have := h2 y hy; omega, h3, h4⟩, fun e => (f1 e).elim, fun e => (f1 (b2 e)).elim, fun e => (f1 (b3 e)).elim, fun e => (f1 (b3 (b5 e))).elim, fun e => ?_, fun e => (f1 (b2 (b4 e).1)).elim, fun _ e h0 b off ha hq => ?_⟩
  · obtain ⟨a1, a2, a3, a4⟩ := k6 e
    exact ⟨a1, a2, a3.below hw a3.lt, a4⟩
  · obtain ⟨a1, a2, a3, a4⟩ := k6 e
    have := h2 _ ha
    have := a3.lt
    simp only at *
    omega
theorem RxJ.to_mv (h : RxJ B u m z x mv s0 s1 al st ae vx vm v0 v1 va vr W) (hx : x = true) : RxJ B u m z x true s0 s1 al st ae vx vx v0 v1 va vr W := by
  obtain ⟨⟨b1, b2, b3, b4, b5⟩, A, c, q, X, k1, k2, k3, k4, k5, k6, k7, k8⟩ := h
  exact ⟨⟨fun _ => hx, fun _ => rfl, fun _ => rfl, b4, b5⟩, A, c, q, X, k1, fun _ => (k1 hx).1, k3, k4, k5, k6, k7, k8⟩
theorem RxJ.to_s0 (h : RxJ B u m z x mv s0 s1 al st ae vx vm v0 v1 va vr W) (hx : mv = true) {A : Option Addr} {c : Nat} (hv : vm = TwoX u A m c z) : RxJ B u m z x mv true s1 al st ae vx vm (.agg (ctxRow u A m.length c)) v1 va vr W := by
  obtain ⟨⟨b1, b2, b3, b4, b5⟩, A0, c0, q, X, k1, k2, k3, k4, k5, k6, k7, k8⟩ := h
  exact ⟨⟨b1, fun _ => hx, b3, fun e => ⟨rfl, (b4 e).2⟩, b5⟩, A0, c0, q, X, k1, k2, fun _ => (TwoX.inj (hv.symm.trans (k2 hx))).1, k4, k5, k6, k7, k8⟩
theorem RxJ.to_s1 (h : RxJ B u m z x mv s0 s1 al st ae vx vm v0 v1 va vr W) (hx : mv = true) : RxJ B u m z x mv s0 true al st ae vx vm v0 (.int .i64 z) va vr W := by
  obtain ⟨⟨b1, b2, b3, b4, b5⟩, A0, c0, q, X, k1, k2, k3, k4, k5, k6, k7, k8⟩ := h
  exact ⟨⟨b1, b2, fun _ => hx, b4, fun _ => rfl⟩, A0, c0, q, X, k1, k2, k3, fun _ => rfl, k5, k6, k7, k8⟩
theorem RxJ.to_ae (h : RxJ B u m z x mv s0 s1 al st ae vx vm v0 v1 va vr W) (hx : s1 = true) : RxJ B u m z x mv s0 s1 al st true vx vm v0 v1 va (.int .i64 z) W := by
  obtain ⟨⟨b1, b2, b3, b4, b5⟩, A0, c0, q, X, k1, k2, k3, k4, k5, k6, k7, k8⟩ := h
  exact ⟨⟨b1, b2, b3, b4, fun _ => hx⟩, A0, c0, q, X, k1, k2, k3, k4, fun _ => rfl, k6, k7, k8⟩
theorem RxJ.to_al (h : RxJ B u m z x mv s0 s1 al st ae vx vm v0 v1 va vr W) (hx : al = false) (hB : B ≤ W.heap.size) {X : Array Value} (hX : X.size = 17) : RxJ B u m z x mv s0 s1 true st ae vx vm v0 v1 (.pointer (some ⟨W.heap.size, 0, none⟩)) vr (W.alloc (.cells X 29)) := by
  have hbl : Below W.heap.size W (W.alloc (.cells X 29)) := (Below.refl _ _).alloc (Nat.le_refl _) _
  obtain ⟨⟨b1, b2, b3, b4, b5⟩, A0, c0, q, Y, k1, k2, k3, k4, k5, k6, k7, k8⟩ := h
  refine ⟨⟨b1, b2, b3, fun e => ⟨(b4 e).1, rfl⟩, b5⟩, A0, c0, W.heap.size, X, fun e => ?_, k2, k3, k4, k5, fun _ => ⟨rfl, hB, Bk.new _ _ _, hX⟩, fun e => ?_, fun e _ h0 b off ha => ?_⟩
  · obtain ⟨a1, a2, a3⟩ := k1 e
    exact ⟨a1, (a2.below hbl).more hbl.size, a3⟩
  · have := (b4 e).2; rw [hx] at this; cases this
  · obtain ⟨a1, a2, a3⟩ := k1 e
    obtain ⟨b', off', e', hlt, _⟩ := a2 h0
    rw [e'] at ha
    injection ha with ha
    injection ha with ha
    omega
theorem RxJ.to_st (h : RxJ B u m z x mv s0 s1 al st ae vx vm v0 v1 va vr W) (h0 : s0 = true) (ha : al = true) {q : Nat} {R : Array Value} (hq : va = .pointer (some ⟨q, 0, none⟩)) (hv : v0 = .agg R) (hR : R.size = 17) (hg : W.grownBy W' (some q)) (hb : Bk W' q 29 R) : RxJ B u m z x mv s0 s1 al true ae vx vm v0 v1 va vr W' := by
  obtain ⟨⟨b1, b2, b3, b4, b5⟩, A0, c0, q', Y, k1, k2, k3, k4, k5, k6, k7, k8⟩ := h
  obtain ⟨a1, a2, a3, a4⟩ := k6 ha
  obtain rfl : q = q' := by
    rw [hq] at a1
    injection a1 with a1
    injection a1 with a1
    injection a1
  have hRR : R = ctxRow u A0 m.length c0 := by
    have := hv.symm.trans (k3 h0)
    injection this
  refine ⟨⟨b1, b2, b3, fun _ => ⟨h0, ha⟩, b5⟩, A0, c0, q, R, fun e => ?_, k2, k3, k4, k5, fun _ => ⟨a1, a2, hb, hR⟩, fun _ => hRR, k8⟩
  obtain ⟨d1, d2, d3⟩ := k1 e
  exact ⟨d1, (d2.grownR (Nat.le_refl _) hg (fun h b off e' => k8 e ha h b off e')).more hg.size, d3⟩
end
end Go.Proofs.Ytjflmfmncepeeaa
