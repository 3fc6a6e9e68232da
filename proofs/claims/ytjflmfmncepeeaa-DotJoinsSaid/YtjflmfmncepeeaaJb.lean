/-
  What dot.contextOf gives, told by the one form of a set; what dot.Add and dot.Join leave behind in their last region.
-/
import Derived.Test.YtjflmfmncepeeaaIs
import Derived.Test.YtjflmfmncepeeaaJa
import Derived.Test.YtjflmfmncepeeaaFj
namespace Go.Proofs.Ytjflmfmncepeeaa
open Go.ChangeShapes Go.WideShapes Go.ChangeAt Go.RowKit
set_option linter.unusedVariables false
set_option linter.unusedSimpArgs false

/-- Of some numbers and dots: their context, or nothing, for they are too many. -/
def ResV (up : List Int) (ms : List DotV) (u : List Int) (m : List DotV) (z : Int) : Prop :=
  ∃ st : List Int × List DotV, OfX up ms st ∧ ((32 < st.2.length ∧ u = List.replicate 16 0 ∧ m = [] ∧ z = 11) ∨ (st.2.length ≤ 32 ∧ u = st.1 ∧ m = st.2 ∧ z = 0))
/-- Two results: a context's value, an error. -/
def TwoX (u : List Int) (A : Option Addr) (m : List DotV) (c : Nat) (z : Int) : Value := .tuple #[.agg (ctxRow u A m.length c), .int .i64 z]
def CtxV (w : World) (own : Option Nat) (up : List Int) (ms : List DotV) (e : Ending) (w' : World) : Prop :=
  w.grownBy w' own ∧ ∃ u m A c z, e = .returned (TwoX u A m c z) ∧ RdD w' w'.heap.size A m ∧ (∀ y, A = some y → w.heap.size ≤ y.block) ∧ m.length ≤ c ∧ c ≤ 9223372036854775807 ∧ u.length = 16 ∧ ResV up ms u m z
theorem contextOf_x (w : World) (up : List Int) (hU : Up16 up) (base g n c : Nat) (ms : List DotV) (hn6 : n ≤ 1000000) (hd : ∀ d ∈ ms, isD d = true) (h : OwnD w base (.slice (some ⟨g, 0, none⟩) n c) ms) :
    Calls Try.prog 45 #[.agg (intRow up), .slice (some ⟨g, 0, none⟩) n c] w (CtxV w (some g) up ms) := by
  refine (contextOf_any w up hU base g n c ms hn6 hd h).mono ?_
  rintro e w' ⟨hg, srt, hp, hs, st, hst, hr⟩
  have ho := ofX_of hU hp hd n h.rd.2 hs
  rw [← hst] at ho
  refine ⟨hg, ?_⟩
  rcases hr with ⟨hl, rfl⟩ | ⟨hl, A, c', rfl, h1, h2, h3, h4⟩
  · exact ⟨List.replicate 16 0, [], none, 0, 11, rfl, RdD.nil, fun y e => (by cases e), Nat.le_refl _, by omega, by simp, st, ho, .inl ⟨hl, rfl, rfl, rfl⟩⟩
  · exact ⟨st.1, st.2, A, c', 0, rfl, h1, h4, h2, h3, ho.1.up16.1, st, ho, .inr ⟨hl, rfl, rfl, rfl⟩⟩

theorem ownD_base {w : World} {base B : Nat} {v : Value} {l : List DotV} (h : OwnD w base v l) (hB : B ≤ base) : OwnD w B v l := by
  refine ⟨h.1, ?_⟩
  rcases h.2 with h0 | ⟨g, cap, cur, hv, hb, hr⟩
  · exact .inl h0
  · exact .inr ⟨g, cap, cur, hv, by omega, hr⟩
theorem OwnD.blockD {w : World} {base n c : Nat} {A : Option Addr} {l : List DotV} (h : OwnD w base (.slice A n c) l) (hn : 0 < n) : ∃ g, A = some ⟨g, 0, none⟩ := by
  rcases h.2 with ⟨h0, _⟩ | ⟨g, cap, cur, hv, _⟩
  · injection h0 with e1 e2 e3
    omega
  · injection hv with e1 e2 e3
    exact ⟨g, e1⟩
theorem put_other {a : Act} {s t : Nat} {v : Value} (h : s ≠ t) : (a.put (some t) v).tmps.getD s undef = a.tmps.getD s undef := by
  simp only [Act.put]
  simp [Array.getD_eq_getD_getElem?, Array.getElem?_setIfInBounds, Ne.symm h]
theorem put_self {a : Act} {t : Nat} {v : Value} (h : t < a.tmps.size) : (a.put (some t) v).tmps.getD t undef = v := by
  simp [Act.put, h]
/-- The region's own class of worlds: all is ae it was, but the result's cell. -/
structure CxC (rg : Nat) (w W : World) : Prop where
  grown : w.grownBy W (some rg)
  res : ∃ X, Bk W rg 29 X ∧ X.size = 17
theorem CxC.start {rg : Nat} {w : World} {X : Array Value} (h : Bk w rg 29 X) (hs : X.size = 17) : CxC rg w w := ⟨World.grownBy.refl _ _, X, h, hs⟩
theorem CxC.keep {rg : Nat} {w W W' : World} (h : CxC rg w W) (hb : Below W.heap.size W W') : CxC rg w W' := by
  obtain ⟨X, hX, hs⟩ := h.res
  exact ⟨grown_of_below h.grown hb, X, hX.below hb hX.lt, hs⟩
theorem CxC.own {rg : Nat} {own : Option Nat} {w W W' : World} (h : CxC rg w W) (hg : W.grownBy W' own) (hq : ∀ q, own = some q → w.heap.size ≤ q) (hr : rg < w.heap.size) : CxC rg w W' := by
  obtain ⟨X, hX, hs⟩ := h.res
  refine ⟨⟨hg.os.trans h.grown.os, hg.tape.trans h.grown.tape, hg.output.trans h.grown.output, Nat.le_trans h.grown.size hg.size, fun b hb hne => (hg.block b (Nat.lt_of_lt_of_le hb h.grown.size) (fun e => by have := hq _ e.symm; omega)).trans (h.grown.block b hb hne)⟩, X, hX.grown hg (fun e => by have := hq _ e.symm; omega), hs⟩
theorem CxC.put {rg : Nat} {w W W' : World} {X : Array Value} (h : CxC rg w W) (hg : W.grownBy W' (some rg)) (hX : Bk W' rg 29 X) (hs : X.size = 17) : CxC rg w W' :=
  ⟨World.grownBy.trans h.grown hg, X, hX, hs⟩
theorem CxC.bk {rg b : Nat} {w W : World} {t : TypeId} {cs : Array Value} (h : CxC rg w W) (hb : Bk w b t cs) (hne : b ≠ rg) : Bk W b t cs := hb.grown h.grown (fun e => hne (by injection e))
theorem CxC.rd {rg B : Nat} {w W : World} {A : Option Addr} {ms : List DotV} (h : CxC rg w W) (hr : RdD w B A ms) (hB : B ≤ rg) (hrg : rg < w.heap.size) : RdD W W.heap.size A ms := by
  have hle := h.grown.size
  refine (hr.grownR (by omega) h.grown fun h0 b off e => ?_).more (by omega)
  obtain ⟨b', off', e', hlt, _⟩ := hr h0
  rw [e'] at e
  injection e with e
  injection e with e
  omega

/-- What those of the region's operations have done that come one behind the other: a slice of the dot alone (dd), of both (b), all dots (k), the call (x), its two results (s0, s1), the store (st), the second result (ae). -/
structure CxJ (B rg : Nat) (up : List Int) (cat : List DotV) (d : DotV) (dd b k x s0 s1 st ae : Bool) (vd vb vk vx v0 v1 vr : Value) (W : World) : Prop where
  hs : (x = true → k = true) ∧ (k = true → b = true) ∧ True ∧ (s0 = true → x = true) ∧ (s1 = true → x = true) ∧ (st = true → x = true) ∧ (ae = true → x = true)
  hd : dd = true → x = false → ∃ q, vd = .slice (some ⟨q, 0, none⟩) 1 1 ∧ RdD W W.heap.size (some ⟨q, 0, none⟩) [d]
  hb : b = true → x = false → ∃ q ps, vb = .slice (some ⟨q, 0, none⟩) 2 2 ∧ ps.length = 2 ∧ flatD ps = cat ∧ CatD W W.heap.size q ps
  hk : k = true → x = false → ∃ A c, vk = .slice A cat.length c ∧ OwnD W B vk cat
  hx : x = true → ∃ u m A c z, vx = TwoX u A m c z ∧ RdD W W.heap.size A m ∧ (∀ y, A = some y → B ≤ y.block) ∧ m.length ≤ c ∧ c ≤ 9223372036854775807 ∧ u.length = 16 ∧ ResV up cat u m z ∧ (s0 = true → v0 = .agg (ctxRow u A m.length c)) ∧ (s1 = true → v1 = .int .i64 z) ∧ (st = true → Bk W rg 29 (ctxRow u A m.length c)) ∧ (ae = true → vr = .int .i64 z)
section
variable {B rg : Nat} {up : List Int} {cat : List DotV} {d : DotV} {dd b k x s0 s1 st ae : Bool} {vd vb vk vx v0 v1 vr : Value} {W W' : World}
theorem CxJ.start : CxJ B rg up cat d false false false false false false false false vd vb vk vx v0 v1 vr W :=
  ⟨⟨fun e => Bool.noConfusion e, fun e => Bool.noConfusion e, trivial, fun e => Bool.noConfusion e, fun e => Bool.noConfusion e, fun e => Bool.noConfusion e, fun e => Bool.noConfusion e⟩, fun e => Bool.noConfusion e, fun e => Bool.noConfusion e, fun e => Bool.noConfusion e, fun e => Bool.noConfusion e⟩
/-- Memory that is made changes nothing. -/
theorem CxJ.keep (h : CxJ B rg up cat d dd b k x s0 s1 st ae vd vb vk vx v0 v1 vr W) (hw : Below W.heap.size W W') : CxJ B rg up cat d dd b k x s0 s1 st ae vd vb vk vx v0 v1 vr W' := by
  refine ⟨h.hs, fun a c => ?_, fun a c => ?_, fun a c => ?_, fun a => ?_⟩
  · obtain ⟨q, e, hr⟩ := h.hd a c
    exact ⟨q, e, (hr.below hw).more hw.size⟩
  · obtain ⟨q, ps, e, h1, h2, hr⟩ := h.hb a c
    refine ⟨q, ps, e, h1, h2, ?_⟩
    have h3 := hr.below hw
    exact ⟨Nat.lt_of_lt_of_le h3.1 hw.size, fun i hi => ⟨(h3.2 i hi).1, (h3.2 i hi).2.more hw.size⟩⟩
  · obtain ⟨A, c', e, ho⟩ := h.hk a c
    exact ⟨A, c', e, ho.below hw (Nat.le_refl _)⟩
  · obtain ⟨u, m, A, c, z, e, hr, hn, h1, h2, h3, h4, h5, h6, h7, h8⟩ := h.hx a
    exact ⟨u, m, A, c, z, e, (hr.below hw).more hw.size, hn, h1, h2, h3, h4, h5, h6, fun g => (h7 g).below hw (h7 g).lt, h8⟩
theorem CxJ.early (h : CxJ B rg up cat d dd b k x s0 s1 st ae vd vb vk vx v0 v1 vr W) (hk : k = false) : x = false := by
  cases hx : x with
  | false => rfl
  | true => rw [h.hs.1 hx] at hk; exact hk
theorem CxJ.to_d (h : CxJ B rg up cat d dd b k x s0 s1 st ae vd vb vk vx v0 v1 vr W) (q : Nat) (hr : RdD W W.heap.size (some ⟨q, 0, none⟩) [d]) : CxJ B rg up cat d true b k x s0 s1 st ae (.slice (some ⟨q, 0, none⟩) 1 1) vb vk vx v0 v1 vr W :=
  ⟨h.hs, fun _ _ => ⟨q, rfl, hr⟩, h.hb, h.hk, h.hx⟩
theorem CxJ.to_b (h : CxJ B rg up cat d dd b k x s0 s1 st ae vd vb vk vx v0 v1 vr W) (q : Nat) (ps : List (Option Addr × Nat × List DotV)) (h1 : ps.length = 2) (h2 : flatD ps = cat) (hr : CatD W W.heap.size q ps) : CxJ B rg up cat d dd true k x s0 s1 st ae vd (.slice (some ⟨q, 0, none⟩) 2 2) vk vx v0 v1 vr W :=
  ⟨⟨h.hs.1, fun _ => rfl, h.hs.2.2⟩, h.hd, fun _ _ => ⟨q, ps, rfl, h1, h2, hr⟩, h.hk, h.hx⟩
theorem CxJ.to_k (h : CxJ B rg up cat d dd b k x s0 s1 st ae vd vb vk vx v0 v1 vr W) (hb : b = true) {A : Option Addr} {c : Nat} (ho : OwnD W B (.slice A cat.length c) cat) : CxJ B rg up cat d dd b true x s0 s1 st ae vd vb (.slice A cat.length c) vx v0 v1 vr W :=
  ⟨⟨fun _ => rfl, fun _ => hb, h.hs.2.2⟩, h.hd, h.hb, fun _ _ => ⟨A, c, rfl, ho⟩, h.hx⟩
theorem CxJ.to_x (h : CxJ B rg up cat d dd b k x s0 s1 st ae vd vb vk vx v0 v1 vr W) (hx0 : x = false) (hk : k = true) {u : List Int} {m : List DotV} {A : Option Addr} {c : Nat} {z : Int} (hr : RdD W' W'.heap.size A m) (hn : ∀ y, A = some y → B ≤ y.block) (h1 : m.length ≤ c) (h2 : c ≤ 9223372036854775807) (h3 : u.length = 16) (h4 : ResV up cat u m z) : CxJ B rg up cat d dd b k true s0 s1 st ae vd vb vk (TwoX u A m c z) v0 v1 vr W' := by
  obtain ⟨_, a2, a3, a4, a5, a6, a7⟩ := h.hs
  have f : ∀ {y : Bool}, (y = true → x = true) → ∀ {p : Prop}, y = true → p := fun hy p e => by rw [hx0] at hy; exact absurd (hy e) (by simp)
  exact ⟨⟨fun _ => hk, a2, a3, fun _ => rfl, fun _ => rfl, fun _ => rfl, fun _ => rfl⟩, fun _ e => Bool.noConfusion e, fun _ e => Bool.noConfusion e, fun _ e => Bool.noConfusion e, fun _ => ⟨u, m, A, c, z, rfl, hr, hn, h1, h2, h3, h4, f a4, f a5, f a6, f a7⟩⟩
/-- Of the call's results one is known to be those that were told. -/
theorem TwoX.inj {u u' : List Int} {A A' : Option Addr} {m m' : List DotV} {c c' : Nat} {z z' : Int} (h : TwoX u A m c z = TwoX u' A' m' c' z') : Value.agg (ctxRow u A m.length c) = .agg (ctxRow u' A' m'.length c') ∧ Value.int .i64 z = .int .i64 z' := by
  unfold TwoX at h
  injection h with h
  have h := congrArg Array.toList h
  simp only [List.cons.injEq, and_true] at h
  exact h
theorem CxJ.to_s0 (h : CxJ B rg up cat d dd b k x s0 s1 st ae vd vb vk vx v0 v1 vr W) (hx0 : x = true) {u : List Int} {m : List DotV} {A : Option Addr} {c : Nat} {z : Int} (hv : vx = TwoX u A m c z) : CxJ B rg up cat d dd b k x true s1 st ae vd vb vk vx (.agg (ctxRow u A m.length c)) v1 vr W := by
  obtain ⟨a1, a2, a3, a4, a5, a6, a7⟩ := h.hs
  refine ⟨⟨a1, a2, a3, fun _ => hx0, a5, a6, a7⟩, h.hd, h.hb, h.hk, fun e => ?_⟩
  obtain ⟨u', m', A', c', z', e1, hr, hn, h1, h2, h3, h4, h5, h6, h7, h8⟩ := h.hx e
  exact ⟨u', m', A', c', z', e1, hr, hn, h1, h2, h3, h4, fun _ => (TwoX.inj (hv.symm.trans e1)).1, h6, h7, h8⟩
theorem CxJ.to_s1 (h : CxJ B rg up cat d dd b k x s0 s1 st ae vd vb vk vx v0 v1 vr W) (hx0 : x = true) {u : List Int} {m : List DotV} {A : Option Addr} {c : Nat} {z : Int} (hv : vx = TwoX u A m c z) : CxJ B rg up cat d dd b k x s0 true st ae vd vb vk vx v0 (.int .i64 z) vr W := by
  obtain ⟨a1, a2, a3, a4, a5, a6, a7⟩ := h.hs
  refine ⟨⟨a1, a2, a3, a4, fun _ => hx0, a6, a7⟩, h.hd, h.hb, h.hk, fun e => ?_⟩
  obtain ⟨u', m', A', c', z', e1, hr, hn, h1, h2, h3, h4, h5, h6, h7, h8⟩ := h.hx e
  exact ⟨u', m', A', c', z', e1, hr, hn, h1, h2, h3, h4, h5, fun _ => (TwoX.inj (hv.symm.trans e1)).2, h7, h8⟩
theorem CxJ.to_ae (h : CxJ B rg up cat d dd b k x s0 s1 st ae vd vb vk vx v0 v1 vr W) (hx0 : x = true) {u : List Int} {m : List DotV} {A : Option Addr} {c : Nat} {z : Int} (hv : vx = TwoX u A m c z) : CxJ B rg up cat d dd b k x s0 s1 st true vd vb vk vx v0 v1 (.int .i64 z) W := by
  obtain ⟨a1, a2, a3, a4, a5, a6, a7⟩ := h.hs
  refine ⟨⟨a1, a2, a3, a4, a5, a6, fun _ => hx0⟩, h.hd, h.hb, h.hk, fun e => ?_⟩
  obtain ⟨u', m', A', c', z', e1, hr, hn, h1, h2, h3, h4, h5, h6, h7, h8⟩ := h.hx e
  exact ⟨u', m', A', c', z', e1, hr, hn, h1, h2, h3, h4, h5, h6, h7, fun _ => (TwoX.inj (hv.symm.trans e1)).2⟩
theorem CxJ.to_st (h : CxJ B rg up cat d dd b k x s0 s1 st ae vd vb vk vx v0 v1 vr W) (hx0 : x = true) {u : List Int} {m : List DotV} {A : Option Addr} {c : Nat} {z : Int} (hv : vx = TwoX u A m c z) (hrg : rg < B) (hg : W.grownBy W' (some rg)) (hb : Bk W' rg 29 (ctxRow u A m.length c)) : CxJ B rg up cat d dd b k x s0 s1 true ae vd vb vk vx v0 v1 vr W' := by
  obtain ⟨a1, a2, a3, a4, a5, a6, a7⟩ := h.hs
  refine ⟨⟨a1, a2, a3, a4, a5, fun _ => hx0, a7⟩, fun _ e => ?_, fun _ e => ?_, fun _ e => ?_, fun e => ?_⟩
  · rw [hx0] at e; cases e
  · rw [hx0] at e; cases e
  · rw [hx0] at e; cases e
  · obtain ⟨u', m', A', c', z', e1, hr, hn, h1, h2, h3, h4, h5, h6, h7, h8⟩ := h.hx e
    exact ⟨u', m', A', c', z', e1, (hr.grownR (Nat.le_refl _) hg (fun _ b off e => by have := hn _ e; simp only at this; omega)).more hg.size, hn, h1, h2, h3, h4, h5, h6, fun _ => by have := (TwoX.inj (hv.symm.trans e1)).1; injection this with this; rw [← this]; exact hb, h8⟩
end
end Go.Proofs.Ytjflmfmncepeeaa
