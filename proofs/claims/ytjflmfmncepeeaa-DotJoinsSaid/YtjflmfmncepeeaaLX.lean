/-
  Merged: Jz La Lb Jl Ld Le.
-/
import Derived.Test.YtjflmfmncepeeaaJy
import Derived.Test.YtjflmfmncepeeaaJc
import Derived.Test.YtjflmfmncepeeaaJj
import Derived.Test.YtjflmfmncepeeaaJk
import Derived.Test.YtjflmfmncepeeaaJn
namespace Go.Proofs.Ytjflmfmncepeeaa
open Go.ChangeShapes Go.WideShapes Go.ChangeAt Go.RowKit
set_option linter.unusedVariables false
set_option linter.unusedSimpArgs false

structure CrC (rg : Nat) (w W : World) : Prop where
  grown : w.grownBy W (some rg)
  res : ∃ X, Bk W rg 25 X ∧ X.size = 17
theorem CrC.start {rg : Nat} {w : World} {X : Array Value} (h : Bk w rg 25 X) (hs : X.size = 17) : CrC rg w w := ⟨World.grownBy.refl _ _, X, h, hs⟩
theorem CrC.keep {rg : Nat} {w W W' : World} (h : CrC rg w W) (hb : Below W.heap.size W W') : CrC rg w W' := by
  obtain ⟨X, hX, hs⟩ := h.res
  exact ⟨grown_of_below h.grown hb, X, hX.below hb hX.lt, hs⟩
theorem CrC.own {rg : Nat} {own : Option Nat} {w W W' : World} (h : CrC rg w W) (hg : W.grownBy W' own) (hq : ∀ q, own = some q → w.heap.size ≤ q) (hr : rg < w.heap.size) : CrC rg w W' := by
  obtain ⟨X, hX, hs⟩ := h.res
  refine ⟨⟨hg.os.trans h.grown.os, hg.tape.trans h.grown.tape, hg.output.trans h.grown.output, Nat.le_trans h.grown.size hg.size, fun b hb hne => (hg.block b (Nat.lt_of_lt_of_le hb h.grown.size) (fun e => by have := hq _ e.symm; omega)).trans (h.grown.block b hb hne)⟩, X, hX.grown hg (fun e => by have := hq _ e.symm; omega), hs⟩
theorem CrC.put {rg : Nat} {w W W' : World} {X : Array Value} (h : CrC rg w W) (hg : W.grownBy W' (some rg)) (hX : Bk W' rg 25 X) (hs : X.size = 17) : CrC rg w W' :=
  ⟨World.grownBy.trans h.grown hg, X, hX, hs⟩
theorem CrC.bk {rg b : Nat} {w W : World} {t : TypeId} {cs : Array Value} (h : CrC rg w W) (hb : Bk w b t cs) (hne : b ≠ rg) : Bk W b t cs := hb.grown h.grown (fun e => hne (by injection e))
theorem CrC.rd {rg B : Nat} {w W : World} {A : Option Addr} {ms : List DotV} (h : CrC rg w W) (hr : RdD w B A ms) (hB : B ≤ rg) (hrg : rg < w.heap.size) : RdD W W.heap.size A ms := by
  have hle := h.grown.size
  refine (hr.grownR (by omega) h.grown fun h0 b off e => ?_).more (by omega)
  obtain ⟨b', off', e', hlt, _⟩ := hr h0
  rw [e'] at e
  injection e with e
  injection e with e
  omega
/-- append onto '[]api.Dot{}': all that was stays, the result is the call's own. -/
theorem run_appD00 {w : World} {base b : Nat} (h : OwnD w base (.slice (some ⟨b, 0, none⟩) 0 0) []) {B : Nat} {A : Option Addr} {m : List DotV} (hr : RdD w B A m) (n c : Nat) (hn : m.length = n) (hm : n ≤ 1000000) (ty : TypeId) (hbase : base ≤ w.heap.size) :
    ∃ A' c' w', (Builtin.append_ #[23, 23] ty #[.slice (some ⟨b, 0, none⟩) 0 0, .slice A n c]).run Try.prog w = .ok (.slice A' n c') w' ∧ OwnD w' base (.slice A' n c') m ∧ Below w.heap.size w w' := by
  obtain ⟨A1, c1, w1, h1, _, _, _, h5, _, _⟩ := run_appD0 (w := w) ⟨b, 0, none⟩ hr n c hn hm ty
  obtain ⟨v2, w2, h6, h7, _, _⟩ := run_appDD h hr n c hn ty (by simp; omega) hbase
  rw [h6] at h1
  injection h1 with e1 e2
  subst e1 e2
  exact ⟨A1, c1, w2, h6, by simpa using h7, h5⟩
theorem step_appD00 {ops : Array Oper} {o : Oper} {a : Act} {w : World} {K : Act → World → Prop} {Q : Exit → Act → World → Prop} {E : Prop} {base b : Nat} (hgd : o.guard = none) (s x : Operand)
    (ho : o.op = .call { callee := .builtin .append, args := #[s, x], argTypes := #[23, 23] })
    (h : OwnD w base (.slice (some ⟨b, 0, none⟩) 0 0) []) (hs : a.eval s = .slice (some ⟨b, 0, none⟩) 0 0) {B : Nat} {A : Option Addr} {m : List DotV} (hr : RdD w B A m) (n c : Nat) (hx : a.eval x = .slice A n c) (hn : m.length = n) (hm : n ≤ 1000000) (hbase : base ≤ w.heap.size)
    (hK : ∀ A' c' w', OwnD w' base (.slice A' n c') m → Below w.heap.size w w' → K (a.put o.dst (.slice A' n c')) w') : if Region.wanted o (yielded ops a.tmps) = true then Oper.wp Try.prog o a w K Q else E := by
  have hw : Region.wanted o (yielded ops a.tmps) = true := by simp [Region.wanted, hgd]
  rw [if_pos hw]
  obtain ⟨A', c', w', hrun, h1, h2⟩ := run_appD00 h hr n c hn hm o.type hbase
  unfold Oper.wp execOp
  simp only [ho, resolve, invoke, builtin, Sem.run_bind, Sem.run_pure, Result.andThen_ok, List.map_toArray, List.map_cons, List.map_nil, hs, hx, hrun]
  exact hK A' c' w' h1 h2
theorem step_appDD {ops : Array Oper} {o : Oper} {a : Act} {w : World} {K : Act → World → Prop} {Q : Exit → Act → World → Prop} {E : Prop} {base : Nat} {v : Value} {l : List DotV} (hgd : o.guard = none) (s x : Operand)
    (ho : o.op = .call { callee := .builtin .append, args := #[s, x], argTypes := #[23, 23] })
    (h : OwnD w base v l) (hs : a.eval s = v) {B : Nat} {A : Option Addr} {m : List DotV} (hr : RdD w B A m) (n c : Nat) (hx : a.eval x = .slice A n c) (hn : m.length = n) (hsz : l.length + n ≤ 1000000) (hbase : base ≤ w.heap.size)
    (hK : ∀ A' c' w', OwnD w' base (.slice A' (l ++ m).length c') (l ++ m) → w.grownBy w' v.ownBlock → K (a.put o.dst (.slice A' (l ++ m).length c')) w') : if Region.wanted o (yielded ops a.tmps) = true then Oper.wp Try.prog o a w K Q else E := by
  have hw : Region.wanted o (yielded ops a.tmps) = true := by simp [Region.wanted, hgd]
  rw [if_pos hw]
  obtain ⟨v', w', hrun, h2, h3, h4⟩ := run_appDD h hr n c hn o.type hsz hbase
  obtain ⟨A', c', hv, _⟩ := h2.form
  subst hv
  unfold Oper.wp execOp
  simp only [ho, resolve, invoke, builtin, Sem.run_bind, Sem.run_pure, Result.andThen_ok, List.map_toArray, List.map_cons, List.map_nil, hs, hx, hrun]
  exact hK A' c' w' h2 h3
/-- '[]api.Dot{}'. -/
theorem ownD_lit0 (w : World) (base : Nat) (hb : base ≤ w.heap.size) : OwnD (w.alloc (.cells #[] 27)) base (.slice (some ⟨w.heap.size, 0, none⟩) 0 0) [] :=
  World.ownsRow_lit (e := 27) (size := 2) w #[] 0 hb (Nat.zero_le _) rfl
/-- What those of the region's operations have done that come one behind the other: an empty slice (e), the first dots (p), the second ones (s), both (k), the call (x), its two results (s0, s1), the store (st), the second result (ae). -/
structure RkJ (B rg : Nat) (up : List Int) (cat m1 m2 : List DotV) (e p s k x s0 s1 st ae : Bool) (ve vp vs vk vx v0 v1 vr : Value) (W : World) : Prop where
  hs : (x = true → k = true) ∧ (k = true → p = true) ∧ (k = true → s = true) ∧ (p = true → e = true) ∧ (s0 = true → x = true) ∧ (s1 = true → x = true) ∧ (st = true → x = true) ∧ (ae = true → x = true)
  he : e = true → p = false → ∃ b, ve = .slice (some ⟨b, 0, none⟩) 0 0 ∧ OwnD W B ve []
  hp : p = true → k = false → ∃ A c, vp = .slice A m1.length c ∧ OwnD W B vp m1
  hv : s = true → k = false → ∃ A c, vs = .slice A m2.length c ∧ RdD W W.heap.size A m2
  hk : k = true → x = false → ∃ A c, vk = .slice A cat.length c ∧ OwnD W B vk cat
  hx : x = true → ∃ u m A c z, vx = TwoX u A m c z ∧ RdD W W.heap.size A m ∧ (∀ y, A = some y → B ≤ y.block) ∧ m.length ≤ c ∧ c ≤ 9223372036854775807 ∧ u.length = 16 ∧ ResV up cat u m z ∧ (s0 = true → v0 = .agg (ctxRow u A m.length c)) ∧ (s1 = true → v1 = .int .i64 z) ∧ (st = true → Bk W rg 25 (ctxRow u A m.length c)) ∧ (ae = true → vr = .int .i64 z)
section
variable {B rg : Nat} {up : List Int} {cat m1 m2 : List DotV} {e p s k x s0 s1 st ae : Bool} {ve vp vs vk vx v0 v1 vr : Value} {W W' : World}
theorem RkJ.start : RkJ B rg up cat m1 m2 false false false false false false false false false ve vp vs vk vx v0 v1 vr W :=
  ⟨⟨fun e => Bool.noConfusion e, fun e => Bool.noConfusion e, fun e => Bool.noConfusion e, fun e => Bool.noConfusion e, fun e => Bool.noConfusion e, fun e => Bool.noConfusion e, fun e => Bool.noConfusion e, fun e => Bool.noConfusion e⟩, fun e => Bool.noConfusion e, fun e => Bool.noConfusion e, fun e => Bool.noConfusion e, fun e => Bool.noConfusion e, fun e => Bool.noConfusion e⟩
/-- Memory that is made changes nothing. -/
theorem RkJ.keep (h : RkJ B rg up cat m1 m2 e p s k x s0 s1 st ae ve vp vs vk vx v0 v1 vr W) (hw : Below W.heap.size W W') : RkJ B rg up cat m1 m2 e p s k x s0 s1 st ae ve vp vs vk vx v0 v1 vr W' := by
  refine ⟨h.hs, fun a c => ?_, fun a c => ?_, fun a c => ?_, fun a c => ?_, fun a => ?_⟩
  · obtain ⟨b, e1, ho⟩ := h.he a c
    exact ⟨b, e1, ho.below hw (Nat.le_refl _)⟩
  · obtain ⟨A, c', e1, ho⟩ := h.hp a c
    exact ⟨A, c', e1, ho.below hw (Nat.le_refl _)⟩
  · obtain ⟨A, c', e1, hr⟩ := h.hv a c
    exact ⟨A, c', e1, (hr.below hw).more hw.size⟩
  · obtain ⟨A, c', e1, ho⟩ := h.hk a c
    exact ⟨A, c', e1, ho.below hw (Nat.le_refl _)⟩
  · obtain ⟨u, m, A, c, z, e1, hr, hn, h1, h2, h3, h4, h5, h6, h7, h8⟩ := h.hx a
    exact ⟨u, m, A, c, z, e1, (hr.below hw).more hw.size, hn, h1, h2, h3, h4, h5, h6, fun g => (h7 g).below hw (h7 g).lt, h8⟩
theorem RkJ.to_e (h : RkJ B rg up cat m1 m2 e p s k x s0 s1 st ae ve vp vs vk vx v0 v1 vr W) (b : Nat) (ho : OwnD W B (.slice (some ⟨b, 0, none⟩) 0 0) []) : RkJ B rg up cat m1 m2 true p s k x s0 s1 st ae (.slice (some ⟨b, 0, none⟩) 0 0) vp vs vk vx v0 v1 vr W :=
  ⟨⟨h.hs.1, h.hs.2.1, h.hs.2.2.1, fun _ => rfl, h.hs.2.2.2.2⟩, fun _ _ => ⟨b, rfl, ho⟩, h.hp, h.hv, h.hk, h.hx⟩
theorem RkJ.to_p (h : RkJ B rg up cat m1 m2 e p s k x s0 s1 st ae ve vp vs vk vx v0 v1 vr W) (he : e = true) {A : Option Addr} {c : Nat} (ho : OwnD W B (.slice A m1.length c) m1) : RkJ B rg up cat m1 m2 e true s k x s0 s1 st ae ve (.slice A m1.length c) vs vk vx v0 v1 vr W :=
  ⟨⟨h.hs.1, fun _ => rfl, h.hs.2.2.1, fun _ => he, h.hs.2.2.2.2⟩, fun _ e => Bool.noConfusion e, fun _ _ => ⟨A, c, rfl, ho⟩, h.hv, h.hk, h.hx⟩
theorem RkJ.to_s (h : RkJ B rg up cat m1 m2 e p s k x s0 s1 st ae ve vp vs vk vx v0 v1 vr W) {A : Option Addr} {c : Nat} (hr : RdD W W.heap.size A m2) : RkJ B rg up cat m1 m2 e p true k x s0 s1 st ae ve vp (.slice A m2.length c) vk vx v0 v1 vr W :=
  ⟨⟨h.hs.1, h.hs.2.1, fun _ => rfl, h.hs.2.2.2⟩, h.he, h.hp, fun _ _ => ⟨A, c, rfl, hr⟩, h.hk, h.hx⟩
theorem RkJ.to_k (h : RkJ B rg up cat m1 m2 e p s k x s0 s1 st ae ve vp vs vk vx v0 v1 vr W) (hk0 : k = false) (hp : p = true) (hs : s = true) {A : Option Addr} {c : Nat} (ho : OwnD W' B (.slice A cat.length c) cat) : RkJ B rg up cat m1 m2 e p s true x s0 s1 st ae ve vp vs (.slice A cat.length c) vx v0 v1 vr W' := by
  obtain ⟨a1, a2, a3, a4, a5, a6, a7, a8⟩ := h.hs
  have hx0 : x = false := by cases hx : x with | false => rfl | true => have := a1 hx; rw [hk0] at this; cases this
  exact ⟨⟨fun _ => rfl, fun _ => hp, fun _ => hs, a4, a5, a6, a7, a8⟩, fun _ e => (by rw [hp] at e; cases e), fun _ e => Bool.noConfusion e, fun _ e => Bool.noConfusion e, fun _ _ => ⟨A, c, rfl, ho⟩, fun e => (by rw [hx0] at e; cases e)⟩
theorem RkJ.to_x (h : RkJ B rg up cat m1 m2 e p s k x s0 s1 st ae ve vp vs vk vx v0 v1 vr W) (hx0 : x = false) (hk : k = true) {u : List Int} {m : List DotV} {A : Option Addr} {c : Nat} {z : Int} (hr : RdD W' W'.heap.size A m) (hn : ∀ y, A = some y → B ≤ y.block) (h1 : m.length ≤ c) (h2 : c ≤ 9223372036854775807) (h3 : u.length = 16) (h4 : ResV up cat u m z) : RkJ B rg up cat m1 m2 e p s k true s0 s1 st ae ve vp vs vk (TwoX u A m c z) v0 v1 vr W' := by
  obtain ⟨a1, a2, a3, a4, a5, a6, a7, a8⟩ := h.hs
  have f : ∀ {y : Bool}, (y = true → x = true) → ∀ {p : Prop}, y = true → p := fun hy p e => by rw [hx0] at hy; exact absurd (hy e) (by simp)
  exact ⟨⟨fun _ => hk, a2, a3, a4, fun _ => rfl, fun _ => rfl, fun _ => rfl, fun _ => rfl⟩, fun _ e => (by rw [a2 hk] at e; cases e), fun _ e => (by rw [hk] at e; cases e), fun _ e => (by rw [hk] at e; cases e), fun _ e => Bool.noConfusion e, fun _ => ⟨u, m, A, c, z, rfl, hr, hn, h1, h2, h3, h4, f a5, f a6, f a7, f a8⟩⟩
theorem RkJ.to_s0 (h : RkJ B rg up cat m1 m2 e p s k x s0 s1 st ae ve vp vs vk vx v0 v1 vr W) (hx0 : x = true) {u : List Int} {m : List DotV} {A : Option Addr} {c : Nat} {z : Int} (hv : vx = TwoX u A m c z) : RkJ B rg up cat m1 m2 e p s k x true s1 st ae ve vp vs vk vx (.agg (ctxRow u A m.length c)) v1 vr W := by
  obtain ⟨a1, a2, a3, a4, a5, a6, a7, a8⟩ := h.hs
  refine ⟨⟨a1, a2, a3, a4, fun _ => hx0, a6, a7, a8⟩, h.he, h.hp, h.hv, h.hk, fun e => ?_⟩
  obtain ⟨u', m', A', c', z', e1, hr, hn, h1, h2, h3, h4, h5, h6, h7, h8⟩ := h.hx e
  exact ⟨u', m', A', c', z', e1, hr, hn, h1, h2, h3, h4, fun _ => (TwoX.inj (hv.symm.trans e1)).1, h6, h7, h8⟩
theorem RkJ.to_s1 (h : RkJ B rg up cat m1 m2 e p s k x s0 s1 st ae ve vp vs vk vx v0 v1 vr W) (hx0 : x = true) {u : List Int} {m : List DotV} {A : Option Addr} {c : Nat} {z : Int} (hv : vx = TwoX u A m c z) : RkJ B rg up cat m1 m2 e p s k x s0 true st ae ve vp vs vk vx v0 (.int .i64 z) vr W := by
  obtain ⟨a1, a2, a3, a4, a5, a6, a7, a8⟩ := h.hs
  refine ⟨⟨a1, a2, a3, a4, a5, fun _ => hx0, a7, a8⟩, h.he, h.hp, h.hv, h.hk, fun e => ?_⟩
  obtain ⟨u', m', A', c', z', e1, hr, hn, h1, h2, h3, h4, h5, h6, h7, h8⟩ := h.hx e
  exact ⟨u', m', A', c', z', e1, hr, hn, h1, h2, h3, h4, h5, fun _ => (TwoX.inj (hv.symm.trans e1)).2, h7, h8⟩
theorem RkJ.to_ae (h : RkJ B rg up cat m1 m2 e p s k x s0 s1 st ae ve vp vs vk vx v0 v1 vr W) (hx0 : x = true) {u : List Int} {m : List DotV} {A : Option Addr} {c : Nat} {z : Int} (hv : vx = TwoX u A m c z) : RkJ B rg up cat m1 m2 e p s k x s0 s1 st true ve vp vs vk vx v0 v1 (.int .i64 z) W := by
  obtain ⟨a1, a2, a3, a4, a5, a6, a7, a8⟩ := h.hs
  refine ⟨⟨a1, a2, a3, a4, a5, a6, a7, fun _ => hx0⟩, h.he, h.hp, h.hv, h.hk, fun e => ?_⟩
  obtain ⟨u', m', A', c', z', e1, hr, hn, h1, h2, h3, h4, h5, h6, h7, h8⟩ := h.hx e
  exact ⟨u', m', A', c', z', e1, hr, hn, h1, h2, h3, h4, h5, h6, h7, fun _ => (TwoX.inj (hv.symm.trans e1)).2⟩
theorem RkJ.to_st (h : RkJ B rg up cat m1 m2 e p s k x s0 s1 st ae ve vp vs vk vx v0 v1 vr W) (hx0 : x = true) {u : List Int} {m : List DotV} {A : Option Addr} {c : Nat} {z : Int} (hv : vx = TwoX u A m c z) (hrg : rg < B) (hg : W.grownBy W' (some rg)) (hb : Bk W' rg 25 (ctxRow u A m.length c)) : RkJ B rg up cat m1 m2 e p s k x s0 s1 true ae ve vp vs vk vx v0 v1 vr W' := by
  obtain ⟨a1, a2, a3, a4, a5, a6, a7, a8⟩ := h.hs
  have hk := a1 hx0
  refine ⟨⟨a1, a2, a3, a4, a5, a6, fun _ => hx0, a8⟩, fun _ e => ?_, fun _ e => ?_, fun _ e => ?_, fun _ e => ?_, fun e => ?_⟩
  · rw [a2 hk] at e; cases e
  · rw [hk] at e; cases e
  · rw [hk] at e; cases e
  · rw [hx0] at e; cases e
  · obtain ⟨u', m', A', c', z', e1, hr, hn, h1, h2, h3, h4, h5, h6, h7, h8⟩ := h.hx e
    exact ⟨u', m', A', c', z', e1, (hr.grownR (Nat.le_refl _) hg (fun _ b off e => by have := hn _ e; simp only at this; omega)).more hg.size, hn, h1, h2, h3, h4, h5, h6, fun _ => by have := (TwoX.inj (hv.symm.trans e1)).1; injection this with this; rw [← this]; exact hb, h8⟩
end
end Go.Proofs.Ytjflmfmncepeeaa

namespace Go.Proofs.Ytjflmfmncepeeaa
open Go.ChangeShapes Go.WideShapes Go.ChangeAt Go.RowKit
set_option linter.unusedVariables false
set_option linter.unusedSimpArgs false

def RaR (g n c : Nat) (up : List Int) (A : Option Addr) (d : DotV) : Nat → Value → Prop
  | 0, v => v = .pointer (some ⟨g, 0, none⟩)
  | 1, v => v = .agg (intRow up)
  | 3, v => v = .pointer (some ⟨g, 16, none⟩)
  | 4, v => v = .slice A n c
  | 6, v => v = .agg d.row
  | _, _ => True
set_option maxRecDepth 100000 in
set_option maxHeartbeats 8000000 in
theorem refAdd_any (w : World) (up : List Int) (hu : up.length = 16) (A : Option Addr) (n c : Nat) (ms : List DotV) (hn : ms.length = n) (hn6 : n ≤ 900000) (hc : n ≤ c) (hr : RdD w w.heap.size A ms) (d : DotV) :
    Calls Try.prog 27 #[.agg (ctxRow up A n c), .agg d.row] w (TwoP (AddV up ms d) w) := by
  obtain ⟨g, hg⟩ : ∃ g, w.heap.size = g := ⟨_, rfl⟩
  obtain ⟨wa, hwa⟩ : ∃ w0, w.alloc (.cells (ctxRow up A n c) 25) = w0 := ⟨_, rfl⟩
  have Ka := show Bk wa g 25 (ctxRow up A n c) by rw [← hwa, ← hg]; exact Bk.new w _ _
  have Xa := show Below g w wa by rw [← hwa, ← hg]; exact (Below.refl _ _).alloc (Nat.le_refl _) _
  have Sa : wa.heap.size = g + 1 := by rw [← hwa, ← hg]; simp
  obtain ⟨w0, hw0⟩ : ∃ w0, wa.alloc (.cells d.row 27) = w0 := ⟨_, rfl⟩
  have b0 : Below wa.heap.size wa w0 := by rw [← hw0]; exact (Below.refl _ _).alloc (Nat.le_refl _) _
  have D0 := show Bk w0 (g + 1) 27 d.row by rw [← Sa, ← hw0]; exact Bk.new wa _ _
  have S0 : w0.heap.size = g + 2 := by rw [← hw0]; simp [Sa]
  have K0 := Ka.below b0 Ka.lt
  have X0 := Xa.trans (b0.mono (by omega))
  have hz := zRX_
  have IX := hidd_ (show (Try.prog.info? 25).map (·.size) = some (ctxRow up A n c).size by rw [ctxRow_size up A n c hu]; exact iRX_)
  have IZ := hidd_ (show (Try.prog.info? 25).map (·.size) = some (ctxRow (List.replicate 16 0) none 0 0).size by rw [ctxRow_size _ _ _ _ (by simp)]; exact iRX_)
  have ID := hidd_ (show (Try.prog.info? 27).map (·.size) = some d.row.size from iD_)
  have IU := hidd_ (show (Try.prog.info? 22).map (·.size) = some (intRow up).size by rw [intRow_size, hu]; exact iU_)
  go_enter Try.func27, Try.ntmps27
  go_upto_region 1 with fail
  generalize hw1 : w0.alloc _ = w1
  have b1 : Below w0.heap.size w0 w1 := by rw [← hw1]; exact (Below.refl _ _).alloc (Nat.le_refl _) _
  have S1 : w1.heap.size = g + 3 := by rw [← hw1]; simp [S0]
  have R1 := hidd_ (show Bk w1 (g + 2) 25 (ctxRow (List.replicate 16 0) none 0 0) by rw [← S0, ← hw1]; exact Bk.new w0 _ _)
  have K1 := hidd_ (K0.below b1 K0.lt)
  have D1 := hidd_ (D0.below b1 D0.lt)
  have X1 := hidd_ (X0.trans (b1.mono (by omega)))
  rw [hg] at hr
  have HRW := hidd_ (hr.below X1.out)
  have HR := hidd_ hr
  have cc := refCheck_any w1 up hu A n c ms hn (by omega) hc ((hr.below X1.out).more (by omega))
  have cd := fun W => refDot_any W d
  have HG := hidd_ hg
  have HU := hidd_ hu
  have HN := hidd_ hn
  have HS1 := hidd_ S1
  obtain ⟨e, he⟩ : ∃ e, chk up ms = e := ⟨_, rfl⟩
  have HE := hidd_ he
  rw [he] at cc
  obtain ⟨bz, hbz⟩ : ∃ b, isD d = b := ⟨_, rfl⟩
  have HBZ := hidd_ hbz
  rw [hbz] at cd
  clear hu hn hr he hbz Ka Xa b0 b1 K0 X0 D0 hw1 hw0 hwa Sa S0 S1 hg
  by_cases he0 : e = 0
  · subst he0
    cases bz
    · go_wp2_with (first
        | (refine wpList_load_row rfl 25 (.tmp 2) rfl g rfl 25 (ctxRow up A n c) (0, 0) _ K1.out Try.underlying25 rfl IX.out ?_)
        | (go_at_call 11; ((with_reducible refine cc.mono ?_); clear cc; rintro e w2 ⟨rfl, hb⟩; have X2 := hidd_ (X1.out.trans (hb.mono (by have := HS1.out; omega))); have D2 := hidd_ (D1.out.below hb D1.out.lt); have R2 := hidd_ (R1.out.below hb R1.out.lt); clear hb))
        | (refine wpList_load_rowWd (by go_simp) 27 (.tmp 3) rfl (g + 1) rfl 27 d.row D2.out _ Try.underlying27 rfl ID.out ?_)
        | (go_at_call 18; ((with_reducible refine (cd _).mono ?_); rintro e w3 ⟨rfl, hb⟩; have X3 := hidd_ (X2.out.trans (hb.mono (by have := R2.out.lt; omega))); have R3 := hidd_ (R2.out.below hb R2.out.lt); clear hb))
        | (refine wpList_built rfl 25 _ rfl (ctxRow (List.replicate 16 0) none 0 0) (by kernel_rfl) ?_)
        | (refine wpList_put_row rfl 25 _ _ rfl (g + 2) (ctxRow (List.replicate 16 0) none 0 0) rfl rfl 25 (ctxRow (List.replicate 16 0) none 0 0) R3.out IZ.out rfl (ctxRow_one _ _ _ _) ?_; intro W9 k9 g9 s9))
      refine bodyPost_ret (results_cell_slotD Try.results27 _ _ (g + 2) (v' := .int .i64 1) rfl rfl (run_loadVar_row _ _ _ _ _ (0, 0) _ k9 Try.underlying25 rfl IZ.out)) rfl ⟨List.replicate 16 0, [], none, 0, 1, rfl, RdD.nil, fun y e => (by cases e), Nat.le_refl _, by omega, by simp, .inl ⟨.inr HBZ.out, rfl, rfl, rfl⟩, ?_⟩
      rw [HG.out]
      exact X3.out.grown g9 (Nat.le_of_lt (Nat.lt_of_le_of_lt (by omega) R3.out.lt)) (fun k hk => by injection hk with hk; omega)
    · go_upto_region 3 with (first
        | (refine wpList_load_row rfl 25 (.tmp 2) rfl g rfl 25 (ctxRow up A n c) (0, 0) _ K1.out Try.underlying25 rfl IX.out ?_)
        | (go_at_call 11; ((with_reducible refine cc.mono ?_); clear cc; rintro e w2 ⟨rfl, hb⟩; have X2 := hidd_ (X1.out.trans (hb.mono (by have := HS1.out; omega))); have D2 := hidd_ (D1.out.below hb D1.out.lt); have K2 := hidd_ (K1.out.below hb K1.out.lt); have R2 := hidd_ (R1.out.below hb R1.out.lt); clear hb))
        | (refine wpList_load_rowWd (by go_simp) 27 (.tmp 3) rfl (g + 1) rfl 27 d.row D2.out _ Try.underlying27 rfl ID.out ?_)
        | (go_at_call 18; ((with_reducible refine (cd _).mono ?_); rintro e w3 ⟨rfl, hb⟩; have X3 := hidd_ (X2.out.trans (hb.mono (by have := R2.out.lt; omega))); have D3 := hidd_ (D2.out.below hb D2.out.lt); have K3 := hidd_ (K2.out.below hb K2.out.lt); have R3 := hidd_ (R2.out.below hb R2.out.lt); clear hb)))
      clear cd R1 R2 K1 K2 D1 D2 X1 X2
      obtain ⟨hcan, hl32⟩ := chk_can HU.out HE.out
      have HCD := hidd_ (show ∀ x ∈ ms ++ [d], isD x = true from fun x hx => by
        rcases List.mem_append.1 hx with h | h
        · exact hcan.dots x h
        · rw [List.mem_singleton] at h; subst h; exact HBZ.out)
      have HU16 := hidd_ hcan.up16
      have HLN := hidd_ (show (ms ++ [d]).length = n + 1 by simp [HN.out])
      have hn32 : n ≤ 32 := by have := HN.out; omega
      have hrg : g + 2 < w3.heap.size := R3.out.lt
      have HRD := hidd_ ((HR.out.below X3.out))
      have C0 : CrC (g + 2) w3 w3 := CrC.start R3.out (ctxRow_size _ _ _ _ (by simp))
      clear hcan hl32 HRW HR
      have HLN2 := HLN
      obtain ⟨B, hB⟩ : ∃ B, w3.heap.size = B := ⟨_, rfl⟩
      obtain ⟨cat, hcat⟩ : ∃ l, ms ++ [d] = l := ⟨_, rfl⟩
      have HCT := hidd_ hcat
      rw [hcat] at HCD HLN2
      clear hcat
      refine region_byJF [15, 16, 17, 18, 19, 20, 21, 22, 23, 24, 25, 26, 5] (CrC (g + 2) w3) (fun _ _ => True) (fun j v _ => RaR g n c up A d j v) (fun L a W => RkJ B (g + 2) up cat ms [d] (L 2) (L 5) (L 7) (L 8) (L 9) (L 10) (L 11) (L 12) (L 13) (a.tmps.getD 17 undef) (a.tmps.getD 20 undef) (a.tmps.getD 22 undef) (a.tmps.getD 23 undef) (a.tmps.getD 24 undef) (a.tmps.getD 25 undef) (a.tmps.getD 26 undef) (a.tmps.getD 5 undef) W) (by kernel_rfl) (by kernel_rfl) (by kernel_rfl) (by kernel_rfl) (fun j v w w' hT hr => hr) (fun j v w hlt hj _ => ?_) (C0.keep ((Below.refl _ _).drew)) ?_ RkJ.start ?_
      · rcases j with _ | _ | _ | _ | _ | _ | _ | _ | _ | _ | _ | _ | _ | _ | j
        all_goals first
          | (exfalso; simp [dstOf] at hj; done)
          | trivial
      · refine ⟨fun D a W hC hd hsz hf hv hJ hL hW K hK => ?_, fun D a W hC hd hsz hf hv hJ hL hW K hK => ?_, fun D a W hC hd hsz hf hv hJ hL hW K hK => ?_, fun D a W hC hd hsz hf hv hJ hL hW K hK => ?_, fun D a W hC hd hsz hf hv hJ hL hW K hK => ?_, fun D a W hC hd hsz hf hv hJ hL hW K hK => ?_, fun D a W hC hd hsz hf hv hJ hL hW K hK => ?_, fun D a W hC hd hsz hf hv hJ hL hW K hK => ?_, fun D a W hC hd hsz hf hv hJ hL hW K hK => ?_, fun D a W hC hd hsz hf hv hJ hL hW K hK => ?_, fun D a W hC hd hsz hf hv hJ hL hW K hK => ?_, fun D a W hC hd hsz hf hv hJ hL hW K hK => ?_, fun D a W hC hd hsz hf hv hJ hL hW K hK => ?_, fun D a W hC hd hsz hf hv hJ hL hW K hK => ?_, trivial⟩
        · have HSZ : a.tmps.size = 27 := hsz
          have e1 := slot_of (a := a) (s := 2) (v := .pointer (some ⟨g, 0, none⟩)) (hf 2 (by kernel_rfl))
          refine step_run (wanted_none rfl) (v := .pointer (some ⟨g, 0, none⟩)) (w' := W) ?_ (hK _ _ hC trivial rfl (by simp only [put_other (show (17:Nat) ≠ 15 by decide), put_other (show (20:Nat) ≠ 15 by decide), put_other (show (22:Nat) ≠ 15 by decide), put_other (show (23:Nat) ≠ 15 by decide), put_other (show (24:Nat) ≠ 15 by decide), put_other (show (25:Nat) ≠ 15 by decide), put_other (show (26:Nat) ≠ 15 by decide), put_other (show (5:Nat) ≠ 15 by decide)]; exact hJ))
          clear hsz HSZ
          go_simp
        · have HSZ : a.tmps.size = 27 := hsz
          have e1 := eval_of (a := a) (s := 15) (v := .pointer (some ⟨g, 0, none⟩)) (hv 0 (by kernel_rfl))
          have KW := hC.bk K3.out (by omega)
          refine step_load_sub (wanted_none rfl) 22 _ rfl g 0 e1 (intRow up) (fun j hj => by rw [intRow_size, HU.out] at hj; rw [Nat.zero_add, KW.cell j, ctxRow_up up A n c j HU.out hj, intRow_at up j (by have := HU.out; omega)]) _ Try.underlying22 rfl IU.out (hK _ _ hC trivial rfl (by simp only [put_other (show (17:Nat) ≠ 16 by decide), put_other (show (20:Nat) ≠ 16 by decide), put_other (show (22:Nat) ≠ 16 by decide), put_other (show (23:Nat) ≠ 16 by decide), put_other (show (24:Nat) ≠ 16 by decide), put_other (show (25:Nat) ≠ 16 by decide), put_other (show (26:Nat) ≠ 16 by decide), put_other (show (5:Nat) ≠ 16 by decide)]; exact hJ))
        · have HSZ : a.tmps.size = 27 := hsz
          have hbl : Below W.heap.size W (W.alloc (.cells #[] 27)) := (Below.refl _ _).alloc (Nat.le_refl _) _
          have ho := ownD_lit0 W B (by have := hC.grown.size; omega)
          refine step_run (wanted_none rfl) (v := .slice (some ⟨W.heap.size, 0, none⟩) 0 0) (w' := W.alloc (.cells #[] 27)) ?_ (hK _ _ (hC.keep hbl) trivial trivial (by simp only [put_other (show (20:Nat) ≠ 17 by decide), put_other (show (22:Nat) ≠ 17 by decide), put_other (show (23:Nat) ≠ 17 by decide), put_other (show (24:Nat) ≠ 17 by decide), put_other (show (25:Nat) ≠ 17 by decide), put_other (show (26:Nat) ≠ 17 by decide), put_other (show (5:Nat) ≠ 17 by decide), put_self (show 17 < a.tmps.size by rw [HSZ]; omega)]; exact (hJ.keep hbl).to_e _ ho))
          clear hsz HSZ hbl ho
          go_simp
        · have HSZ : a.tmps.size = 27 := hsz
          have e1 := slot_of (a := a) (s := 2) (v := .pointer (some ⟨g, 0, none⟩)) (hf 2 (by kernel_rfl))
          refine step_run (wanted_none rfl) (v := .pointer (some ⟨g, 16, none⟩)) (w' := W) ?_ (hK _ _ hC trivial rfl (by simp only [put_other (show (17:Nat) ≠ 18 by decide), put_other (show (20:Nat) ≠ 18 by decide), put_other (show (22:Nat) ≠ 18 by decide), put_other (show (23:Nat) ≠ 18 by decide), put_other (show (24:Nat) ≠ 18 by decide), put_other (show (25:Nat) ≠ 18 by decide), put_other (show (26:Nat) ≠ 18 by decide), put_other (show (5:Nat) ≠ 18 by decide)]; exact hJ))
          clear hsz HSZ
          go_simp
        · have HSZ : a.tmps.size = 27 := hsz
          have e1 := slot_of (a := a) (s := 18) (v := .pointer (some ⟨g, 16, none⟩)) (hv 3 (by kernel_rfl))
          have hcx := ((hC.bk K3.out (by omega)).cell 16).trans (ctxRow_more up A n c HU.out)
          refine step_run (wanted_none rfl) (v := .slice A n c) (w' := W) ?_ (hK _ _ hC trivial rfl (by simp only [put_other (show (17:Nat) ≠ 19 by decide), put_other (show (20:Nat) ≠ 19 by decide), put_other (show (22:Nat) ≠ 19 by decide), put_other (show (23:Nat) ≠ 19 by decide), put_other (show (24:Nat) ≠ 19 by decide), put_other (show (25:Nat) ≠ 19 by decide), put_other (show (26:Nat) ≠ 19 by decide), put_other (show (5:Nat) ≠ 19 by decide)]; exact hJ))
          clear hsz HSZ
          go_simp
        · have HSZ : a.tmps.size = 27 := hsz
          obtain ⟨b0, hq, ho⟩ := hJ.he (hW 2 (by kernel_rfl)) hL
          have hBW : B ≤ W.heap.size := by have := hC.grown.size; omega
          have ho2 := ho
          rw [hq] at ho2
          refine step_appD00 rfl (.tmp 17) (.tmp 19) rfl ho2 (eval_of hq) (hC.rd HRD.out (by omega) hrg) n c (eval_of (hv 4 (by kernel_rfl))) HN.out (by omega) hBW ?_
          intro A' c' W' h1 h2
          have hl := HN.out
          exact hK _ _ (hC.keep h2) trivial trivial (by simp only [put_other (show (17:Nat) ≠ 20 by decide), put_other (show (22:Nat) ≠ 20 by decide), put_other (show (23:Nat) ≠ 20 by decide), put_other (show (24:Nat) ≠ 20 by decide), put_other (show (25:Nat) ≠ 20 by decide), put_other (show (26:Nat) ≠ 20 by decide), put_other (show (5:Nat) ≠ 20 by decide), put_self (show 20 < a.tmps.size by rw [HSZ]; omega)]; exact (by rw [← hl] at h1 ⊢; exact (hJ.keep h2).to_p (hW 2 (by kernel_rfl)) h1))
        · have HSZ : a.tmps.size = 27 := hsz
          have e1 := eval_of (a := a) (s := 3) (v := .pointer (some ⟨g + 1, 0, none⟩)) (hf 3 (by kernel_rfl))
          have KW := hC.bk D3.out (by omega)
          refine step_load_sub (wanted_none rfl) 27 _ rfl (g + 1) 0 e1 d.row (fun j hj => by rw [Nat.zero_add]; exact KW.cell j) _ Try.underlying27 rfl ID.out (hK _ _ hC trivial rfl (by simp only [put_other (show (17:Nat) ≠ 21 by decide), put_other (show (20:Nat) ≠ 21 by decide), put_other (show (22:Nat) ≠ 21 by decide), put_other (show (23:Nat) ≠ 21 by decide), put_other (show (24:Nat) ≠ 21 by decide), put_other (show (25:Nat) ≠ 21 by decide), put_other (show (26:Nat) ≠ 21 by decide), put_other (show (5:Nat) ≠ 21 by decide)]; exact hJ))
        · have HSZ : a.tmps.size = 27 := hsz
          have e1 := slot_of (a := a) (s := 21) (v := .agg d.row) (hv 6 (by kernel_rfl))
          have hbl : Below W.heap.size W (W.alloc (.cells d.row 27)) := (Below.refl _ _).alloc (Nat.le_refl _) _
          have hrd := rdD_one (Bk.new W 27 d.row) (W.alloc (.cells d.row 27)).heap.size (by simp)
          refine step_run (wanted_none rfl) (v := .slice (some ⟨W.heap.size, 0, none⟩) 1 1) (w' := W.alloc (.cells d.row 27)) ?_ (hK _ _ (hC.keep hbl) trivial trivial (by simp only [put_other (show (17:Nat) ≠ 22 by decide), put_other (show (20:Nat) ≠ 22 by decide), put_other (show (23:Nat) ≠ 22 by decide), put_other (show (24:Nat) ≠ 22 by decide), put_other (show (25:Nat) ≠ 22 by decide), put_other (show (26:Nat) ≠ 22 by decide), put_other (show (5:Nat) ≠ 22 by decide), put_self (show 22 < a.tmps.size by rw [HSZ]; omega)]; exact (hJ.keep hbl).to_s (A := some ⟨W.heap.size, 0, none⟩) (c := 1) hrd))
          clear hsz HSZ hbl hrd
          unfold DotV.row at e1 ⊢
          go_simp
        · have HSZ : a.tmps.size = 27 := hsz
          obtain ⟨A1', c1', hq1, ho⟩ := hJ.hp (hW 5 (by kernel_rfl)) hL
          obtain ⟨A2', c2', hq2, hr2⟩ := hJ.hv (hW 7 (by kernel_rfl)) hL
          have hBW : B ≤ W.heap.size := by have := hC.grown.size; omega
          have hlt := ho.lt
          refine step_appDD rfl (.tmp 20) (.tmp 22) rfl ho rfl hr2 ([d]).length c2' (eval_of hq2) rfl (by have := HLN.out; rw [List.length_append] at this; omega) hBW ?_
          intro A' c' W' h1 h2
          rw [HCT.out] at h1 ⊢
          exact hK _ _ (hC.own h2 (fun q hq => by have := (hlt q hq).1; omega) hrg) trivial trivial (by simp only [put_other (show (17:Nat) ≠ 23 by decide), put_other (show (20:Nat) ≠ 23 by decide), put_other (show (22:Nat) ≠ 23 by decide), put_other (show (24:Nat) ≠ 23 by decide), put_other (show (25:Nat) ≠ 23 by decide), put_other (show (26:Nat) ≠ 23 by decide), put_other (show (5:Nat) ≠ 23 by decide), put_self (show 23 < a.tmps.size by rw [HSZ]; omega)]; exact hJ.to_k hL (hW 5 (by kernel_rfl)) (hW 7 (by kernel_rfl)) h1)
        · have HSZ : a.tmps.size = 27 := hsz
          obtain ⟨A', c', hq, ho⟩ := hJ.hk (hW 8 (by kernel_rfl)) hL
          have e1 := slot_of (a := a) (s := 16) (v := .agg (intRow up)) (hv 1 (by kernel_rfl))
          have e2 := slot_of hq
          rw [hq] at ho
          have hrd := ho.rd.1
          refine step_callx 47 #[.agg (intRow up), .slice A' cat.length c'] (wanted_none rfl) (w' := W) ?_ ((make_any W up HU16.out A' cat.length c' cat rfl (by have := HLN2.out; omega) hrd HCD.out).mono ?_)
          · clear hsz HSZ hrd
            go_simp
          · rintro e W' ⟨u, m, A2, c2, z, rfl, h1, h2, h3, h4, h5, h6, hg⟩
            have h7 := hC.grown.size
            refine ⟨_, rfl, hK _ _ (hC.keep hg) trivial trivial ?_⟩
            simp only [put_other (show (17:Nat) ≠ 24 by decide), put_other (show (20:Nat) ≠ 24 by decide), put_other (show (22:Nat) ≠ 24 by decide), put_other (show (23:Nat) ≠ 24 by decide), put_other (show (25:Nat) ≠ 24 by decide), put_other (show (26:Nat) ≠ 24 by decide), put_other (show (5:Nat) ≠ 24 by decide), put_self (show 24 < a.tmps.size by rw [HSZ]; omega)]
            exact hJ.to_x hL (hW 8 (by kernel_rfl)) h1 (fun y hy => by have := h2 y hy; omega) h3 h4 h5 h6
        · have HSZ : a.tmps.size = 27 := hsz
          obtain ⟨u, m, A2, c2, z, hq, h1, h2, h3, h4, h5, h6, h7, h8, h9, h10⟩ := hJ.hx (hW 9 (by kernel_rfl))
          have e1 := slot_of hq
          refine step_run (wanted_none rfl) (v := .agg (ctxRow u A2 m.length c2)) (w' := W) ?_ (hK _ _ hC trivial trivial (by simp only [put_other (show (17:Nat) ≠ 25 by decide), put_other (show (20:Nat) ≠ 25 by decide), put_other (show (22:Nat) ≠ 25 by decide), put_other (show (23:Nat) ≠ 25 by decide), put_other (show (24:Nat) ≠ 25 by decide), put_other (show (26:Nat) ≠ 25 by decide), put_other (show (5:Nat) ≠ 25 by decide), put_self (show 25 < a.tmps.size by rw [HSZ]; omega)]; exact hJ.to_s0 (hW 9 (by kernel_rfl)) hq))
          unfold TwoX at e1
          clear hsz HSZ hq h7 h8 h9 h10
          go_simp
        · have HSZ : a.tmps.size = 27 := hsz
          obtain ⟨u, m, A2, c2, z, hq, h1, h2, h3, h4, h5, h6, h7, h8, h9, h10⟩ := hJ.hx (hW 9 (by kernel_rfl))
          have e1 := slot_of hq
          refine step_run (wanted_none rfl) (v := .int .i64 z) (w' := W) ?_ (hK _ _ hC trivial trivial (by simp only [put_other (show (17:Nat) ≠ 26 by decide), put_other (show (20:Nat) ≠ 26 by decide), put_other (show (22:Nat) ≠ 26 by decide), put_other (show (23:Nat) ≠ 26 by decide), put_other (show (24:Nat) ≠ 26 by decide), put_other (show (25:Nat) ≠ 26 by decide), put_other (show (5:Nat) ≠ 26 by decide), put_self (show 26 < a.tmps.size by rw [HSZ]; omega)]; exact hJ.to_s1 (hW 9 (by kernel_rfl)) hq))
          unfold TwoX at e1
          clear hsz HSZ hq h7 h8 h9 h10
          go_simp
        · have HSZ : a.tmps.size = 27 := hsz
          obtain ⟨u, m, A2, c2, z, hq, h1, h2, h3, h4, h5, h6, h7, h8, h9, h10⟩ := hJ.hx (hJ.hs.2.2.2.2.1 (hW 10 (by kernel_rfl)))
          have e1 := eval_of (a := a) (s := 4) (v := .pointer (some ⟨(g + 2), 0, none⟩)) (hf 4 (by kernel_rfl))
          have e2 := eval_of (h7 (hW 10 (by kernel_rfl)))
          obtain ⟨X, hX, hXs⟩ := hC.res
          have IV : (Try.prog.info? 25).map (·.size) = some (ctxRow u A2 m.length c2).size := by rw [ctxRow_size _ _ _ _ h5]; exact iRX_
          refine step_put_row rfl 25 _ _ rfl (g + 2) (ctxRow u A2 m.length c2) e1 e2 25 X hX IV (by rw [hXs, ctxRow_size _ _ _ _ h5]) (ctxRow_one _ _ _ _) ?_
          intro W' k9 g9 s9
          exact hK _ _ (hC.put g9 k9 (ctxRow_size _ _ _ _ h5)) trivial trivial (by simp only [put_none]; exact hJ.to_st (hJ.hs.2.2.2.2.1 (hW 10 (by kernel_rfl))) hq (by omega) g9 k9)
        · have HSZ : a.tmps.size = 27 := hsz
          obtain ⟨u, m, A2, c2, z, hq, h1, h2, h3, h4, h5, h6, h7, h8, h9, h10⟩ := hJ.hx (hJ.hs.2.2.2.2.2.1 (hW 11 (by kernel_rfl)))
          have e1 := slot_of (h8 (hW 11 (by kernel_rfl)))
          refine step_run (wanted_none rfl) (v := .int .i64 z) (w' := W) ?_ (hK _ _ hC trivial trivial (by simp only [put_other (show (17:Nat) ≠ 5 by decide), put_other (show (20:Nat) ≠ 5 by decide), put_other (show (22:Nat) ≠ 5 by decide), put_other (show (23:Nat) ≠ 5 by decide), put_other (show (24:Nat) ≠ 5 by decide), put_other (show (25:Nat) ≠ 5 by decide), put_other (show (26:Nat) ≠ 5 by decide), put_self (show 5 < a.tmps.size by rw [HSZ]; omega)]; exact hJ.to_ae (hJ.hs.2.2.2.2.2.1 (hW 11 (by kernel_rfl))) hq))
          clear hsz HSZ hq h7 h9 h10
          go_simp
      · intro f W hC hv L hL hJ'
        obtain ⟨aE, hJ, hfr⟩ := hJ'
        obtain ⟨u, m, A2, c2, z, hq, h1, h2, h3, h4, h5, h6, h7, h8, h9, h10⟩ := hJ.hx (hL 9 (by decide))
        have hf5 : f 5 = .int .i64 z := by rw [← hfr 5]; exact h10 (hL 13 (by decide))
        have k9 := h9 (hL 12 (by decide))
        have IV := hidd_ (show (Try.prog.info? 25).map (·.size) = some (ctxRow u A2 m.length c2).size by rw [ctxRow_size _ _ _ _ h5]; exact iRX_)
        have XB := hidd_ (X3.out.grown hC.grown (by omega) (fun k hk => by injection hk with hk; omega))
        simp only [framed, List.foldl_cons, List.foldl_nil, List.setIfInBounds_toArray, List.set_cons_succ, List.set_cons_zero, hf5]
        clear hv hC hJ hfr hL hq h7 h8 h9 h10 hf5
        rename_i K hK
        refine hK _ _ ?_
        go_wp2
        exact bodyPost_ret (results_cell_slotD Try.results27 _ _ (g + 2) (v' := .int .i64 z) rfl rfl (run_loadVar_row _ _ _ _ _ (0, 0) _ k9 Try.underlying25 rfl IV.out)) rfl ⟨u, m, A2, c2, z, rfl, h1, fun y hy => by have := h2 y hy; have := HG.out; omega, h3, h4, h5, .inr ⟨⟨HE.out, HBZ.out⟩, by rw [HCT.out]; exact h6⟩, by rw [HG.out]; exact XB.out⟩
  · have b1 : (e == 0) = false := by simpa using he0
    have b2 : (e != 0) = true := by simpa using he0
    have HQ := hidd_ (show chk up ms ≠ 0 by rw [HE.out]; exact he0)
    clear he0
    go_wp2_with (first
      | (refine wpList_load_row rfl 25 (.tmp 2) rfl g rfl 25 (ctxRow up A n c) (0, 0) _ K1.out Try.underlying25 rfl IX.out ?_)
      | (go_at_call 11; ((with_reducible refine cc.mono ?_); clear cc; rintro e w2 ⟨rfl, hb⟩; have X3 := hidd_ (X1.out.trans (hb.mono (by have := HS1.out; omega))); have R3 := hidd_ (R1.out.below hb R1.out.lt); clear hb))
      | (refine wpList_built rfl 25 _ rfl (ctxRow (List.replicate 16 0) none 0 0) (by kernel_rfl) ?_)
      | (refine wpList_put_row rfl 25 _ _ rfl (g + 2) (ctxRow (List.replicate 16 0) none 0 0) rfl rfl 25 (ctxRow (List.replicate 16 0) none 0 0) R3.out IZ.out rfl (ctxRow_one _ _ _ _) ?_; intro W9 k9 g9 s9))
    refine bodyPost_ret (results_cell_slotD Try.results27 _ _ (g + 2) (v' := .int .i64 1) rfl rfl (run_loadVar_row _ _ _ _ _ (0, 0) _ k9 Try.underlying25 rfl IZ.out)) rfl ⟨List.replicate 16 0, [], none, 0, 1, rfl, RdD.nil, fun y e => (by cases e), Nat.le_refl _, by omega, by simp, .inl ⟨.inl HQ.out, rfl, rfl, rfl⟩, ?_⟩
    rw [HG.out]
    exact X3.out.grown g9 (Nat.le_of_lt (Nat.lt_of_le_of_lt (by omega) R3.out.lt)) (fun k hk => by injection hk with hk; omega)
end Go.Proofs.Ytjflmfmncepeeaa

namespace Go.Proofs.Ytjflmfmncepeeaa
open Go.ChangeShapes Go.WideShapes Go.ChangeAt Go.RowKit
set_option linter.unusedVariables false
set_option linter.unusedSimpArgs false

def RjR (g n c : Nat) (up : List Int) (A : Option Addr) : Nat → Value → Prop
  | 0, v => v = .pointer (some ⟨g, 0, none⟩)
  | 1, v => v = .agg (intRow up)
  | 3, v => v = .pointer (some ⟨g, 16, none⟩)
  | 4, v => v = .slice A n c
  | 6, v => v = .pointer (some ⟨g + 1, 16, none⟩)
  | _, _ => True
set_option maxRecDepth 100000 in
set_option maxHeartbeats 8000000 in
theorem refJoin_any (w : World) (up : List Int) (hu : up.length = 16) (A : Option Addr) (n c : Nat) (ms : List DotV) (hn : ms.length = n) (hn6 : n ≤ 400000) (hc : n ≤ c) (hr : RdD w w.heap.size A ms) (up' : List Int) (hu' : up'.length = 16) (A' : Option Addr) (n' c' : Nat) (ms' : List DotV) (hn' : ms'.length = n') (hn6' : n' ≤ 400000) (hc' : n' ≤ c') (hr' : RdD w w.heap.size A' ms') :
    Calls Try.prog 25 #[.agg (ctxRow up A n c), .agg (ctxRow up' A' n' c')] w (TwoP (JoinV up ms up' ms') w) := by
  obtain ⟨g, hg⟩ : ∃ g, w.heap.size = g := ⟨_, rfl⟩
  obtain ⟨wa, hwa⟩ : ∃ w0, w.alloc (.cells (ctxRow up A n c) 25) = w0 := ⟨_, rfl⟩
  have Ka := show Bk wa g 25 (ctxRow up A n c) by rw [← hwa, ← hg]; exact Bk.new w _ _
  have Xa := show Below g w wa by rw [← hwa, ← hg]; exact (Below.refl _ _).alloc (Nat.le_refl _) _
  have Sa : wa.heap.size = g + 1 := by rw [← hwa, ← hg]; simp
  obtain ⟨w0, hw0⟩ : ∃ w0, wa.alloc (.cells (ctxRow up' A' n' c') 25) = w0 := ⟨_, rfl⟩
  have b0 : Below wa.heap.size wa w0 := by rw [← hw0]; exact (Below.refl _ _).alloc (Nat.le_refl _) _
  have D0 := show Bk w0 (g + 1) 25 (ctxRow up' A' n' c') by rw [← Sa, ← hw0]; exact Bk.new wa _ _
  have S0 : w0.heap.size = g + 2 := by rw [← hw0]; simp [Sa]
  have K0 := Ka.below b0 Ka.lt
  have X0 := Xa.trans (b0.mono (by omega))
  have hz := zRX_
  have hzU : ∀ W, (zeroValue 22).run Try.prog W = .ok (.agg (intRow [0, 0, 0, 0, 0, 0, 0, 0, 0, 0, 0, 0, 0, 0, 0, 0])) W := fun W => by kernel_rfl
  have IX := hidd_ (show (Try.prog.info? 25).map (·.size) = some (ctxRow up A n c).size by rw [ctxRow_size up A n c hu]; exact iRX_)
  have IX' := hidd_ (show (Try.prog.info? 25).map (·.size) = some (ctxRow up' A' n' c').size by rw [ctxRow_size _ _ _ _ hu']; exact iRX_)
  have IZ := hidd_ (show (Try.prog.info? 25).map (·.size) = some (ctxRow (List.replicate 16 0) none 0 0).size by rw [ctxRow_size _ _ _ _ (by simp)]; exact iRX_)
  have IU := hidd_ (fun (u : List Int) (hu : u.length = 16) => (show (Try.prog.info? 22).map (·.size) = some (intRow u).size by rw [intRow_size, hu]; exact iU_))
  go_enter Try.func25, Try.ntmps25
  go_upto_region 1 with fail
  generalize hw1 : w0.alloc _ = w1
  have b1 : Below w0.heap.size w0 w1 := by rw [← hw1]; exact (Below.refl _ _).alloc (Nat.le_refl _) _
  have S1 : w1.heap.size = g + 3 := by rw [← hw1]; simp [S0]
  have R1 := hidd_ (show Bk w1 (g + 2) 25 (ctxRow (List.replicate 16 0) none 0 0) by rw [← S0, ← hw1]; exact Bk.new w0 _ _)
  have K1 := hidd_ (K0.below b1 K0.lt)
  have D1 := hidd_ (D0.below b1 D0.lt)
  have X1 := hidd_ (X0.trans (b1.mono (by omega)))
  rw [hg] at hr hr'
  have HR := hidd_ hr
  have HR' := hidd_ hr'
  have cc := refCheck_any w1 up hu A n c ms hn (by omega) hc ((hr.below X1.out).more (by omega))
  have HG := hidd_ hg
  have HU := hidd_ hu
  have HU' := hidd_ hu'
  have HN := hidd_ hn
  have HN' := hidd_ hn'
  have HS1 := hidd_ S1
  obtain ⟨e, he⟩ : ∃ e, chk up ms = e := ⟨_, rfl⟩
  have HE := hidd_ he
  rw [he] at cc
  obtain ⟨e', he'⟩ : ∃ e, chk up' ms' = e := ⟨_, rfl⟩
  have HE' := hidd_ he'
  clear hu hu' hn hn' hr hr' he Ka Xa b0 b1 K0 X0 D0 hw1 hw0 hwa Sa S0 S1 hg
  by_cases he0 : e = 0
  · subst he0
    by_cases he1 : e' = 0
    · subst he1
      go_upto_region 3 with (first
        | (refine wpList_load_row rfl 25 (.tmp 2) rfl g rfl 25 (ctxRow up A n c) (0, 0) _ K1.out Try.underlying25 rfl IX.out ?_)
        | (refine wpList_load_rowWd (by go_simp) 25 (.tmp 3) rfl (g + 1) rfl 25 (ctxRow up' A' n' c') D2.out _ Try.underlying25 rfl IX'.out ?_)
        | (go_at_call 11; ((with_reducible refine cc.mono ?_); clear cc; rintro e w2 ⟨rfl, hb⟩; have X2 := hidd_ (X1.out.trans (hb.mono (by have := HS1.out; omega))); have D2 := hidd_ (D1.out.below hb D1.out.lt); have K2 := hidd_ (K1.out.below hb K1.out.lt); have R2 := hidd_ (R1.out.below hb R1.out.lt); clear hb; have cd := refCheck_any w2 up' HU'.out A' n' c' ms' HN'.out (by omega) hc' ((HR'.out.below X2.out).more (by have := R2.out.lt; omega)); rw [he'] at cd))
        | (go_at_call 11; ((with_reducible refine cd.mono ?_); clear cd; rintro e w3 ⟨rfl, hb⟩; have X3 := hidd_ (X2.out.trans (hb.mono (by have := R2.out.lt; omega))); have D3 := hidd_ (D2.out.below hb D2.out.lt); have K3 := hidd_ (K2.out.below hb K2.out.lt); have R3 := hidd_ (R2.out.below hb R2.out.lt); clear hb)))
      obtain ⟨hcan, hl32⟩ := chk_can HU.out HE.out
      obtain ⟨hcan', hl32'⟩ := chk_can HU'.out HE'.out
      have HCD := hidd_ (show ∀ x ∈ ms ++ ms', isD x = true from fun x hx => by
        rcases List.mem_append.1 hx with h | h
        · exact hcan.dots x h
        · exact hcan'.dots x h)
      have HU16 := hidd_ (mxN_up hcan.up16 hcan'.up16 16)
      have HLN := hidd_ (show (ms ++ ms').length = n + n' by rw [List.length_append, HN.out, HN'.out])
      have hn32 : n ≤ 32 := by have := HN.out; omega
      have hn32' : n' ≤ 32 := by have := HN'.out; omega
      clear R1 R2 K1 K2 D1 D2 X1 X2 hcan hcan' hl32 hl32' he'
      have hrg3 : g + 2 < w3.heap.size := R3.out.lt
      go_wp2
      go_loopw [6] (fun i wr => ∃ k : Nat, k ≤ 16 ∧ i = .int .i64 k ∧ Hid (Bk wr g 25 (ctxRow (mxN up up' k) A n c)) ∧ Hid (w3.grownBy wr (some g))) (fun i _ => 16 - (intOf i).toNat)
      case atStart => exact ⟨0, by omega, rfl, hidd_ (by rw [mxN_zero _ _ HU.out]; exact K3.out), hidd_ (World.grownBy.refl _ _)⟩
      case round =>
        obtain ⟨k, hk, rfl, HP, HGR⟩ := hrel
        by_cases hlt : k < 16
        · obtain ⟨z, hz'⟩ : ∃ z, up'.getD k 0 = z := ⟨_, rfl⟩
          obtain ⟨y, hy⟩ : ∃ z, up.getD k 0 = z := ⟨_, rfl⟩
          have hgy : (mxN up up' k).getD k 0 = y := by rw [mxN_at _ _ _ _ hlt, if_neg (by omega), hy]
          have hcz := (HP.out.cell k).trans (ctxRow_up _ A n c k (mxN_len _ _ _) hlt)
          rw [hgy] at hcz
          have hcy := (((D3.out.grown HGR.out (fun e => by injection e with e; omega)).cell k).trans (ctxRow_up up' A' n' c' k HU'.out hlt)).trans (by rw [hz'])
          have hfz := HP.out.frozen k
          obtain ⟨mx, hmx⟩ : ∃ m, m = max y z := ⟨_, rfl⟩
          have hmax := fun W ts t => run_max2 y z mx hmx W ts t
          have HST := hidd_ (show (ctxRow (mxN up up' k) A n c).setIfInBounds k (.int .i64 mx) = ctxRow (mxN up up' (k + 1)) A n c by rw [ctxRow_setup _ _ _ _ _ _ (mxN_len _ _ _) hlt, hmx, ← hy, ← hz', mxN_set _ _ _ hlt])
          have CZ := hidd_ (show wr.cell? ⟨g, k, none⟩ = some (.int .i64 y) from hcz)
          have CY := hidd_ (show wr.cell? ⟨g + 1, k, none⟩ = some (.int .i64 z) from hcy)
          have t0 : (0 : Int) ≤ (k : Int) := by omega
          have t1 : (k : Int) < 16 := by omega
          clear hz' hy hgy hmx hcy hcz hfz
          go_upto_region 6 with fail
          refine region_quiet_tail_lit 12 (by kernel_rfl) (by decide +kernel) ?_
          simp only [List.take_succ_cons, List.take_zero]
          repeat (go_big_quiet_want; (first
            | (refine BigFrame.quiet_move _ rfl ?_; go_simp)
            | (refine quiet_run (.pointer (some ⟨g, 0, none⟩)) ?_ ?_; (focus (intro W hW; go_simp; done)); go_simp)
            | (refine quiet_run (.pointer (some ⟨g, k, none⟩)) ?_ ?_; (focus (intro W hW; go_simp; done)); go_simp)
            | (refine quiet_run (.pointer (some ⟨g + 1, 0, none⟩)) ?_ ?_; (focus (intro W hW; go_simp; done)); go_simp)
            | (refine quiet_run (.pointer (some ⟨g + 1, k, none⟩)) ?_ ?_; (focus (intro W hW; go_simp; done)); go_simp)
            | (refine quiet_run (.int .i64 y) ?_ ?_; (focus (intro W hW; obtain ⟨nq, rfl⟩ := hW; have h := CZ.out; go_simp; done)); go_simp)
            | (refine quiet_run (.int .i64 z) ?_ ?_; (focus (intro W hW; obtain ⟨nq, rfl⟩ := hW; have h := CY.out; go_simp; done)); go_simp)
            | (refine quiet_run (.int .i64 mx) ?_ ?_; (focus (intro W hW; have h := fun ts t => hmax W ts t; go_simp; done)); go_simp)); go_big_quiet_on)
          refine wpQuiet_nil ?_
          intro w8 hw8
          obtain ⟨nq, rfl⟩ := hw8
          simp only [List.drop_succ_cons, List.drop_zero]
          have HP8 : Hid (Bk (wr.drewN nq) g 25 (ctxRow (mxN up up' k) A n c)) := hidd_ HP.out
          have HG8 := hidd_ (grown_of_below HGR.out (below_drewN (Below.refl wr.heap.size wr) nq))
          generalize wr.drewN nq = w8 at *
          have hfz := HP8.out.frozen k
          have hcz := (HP8.out.cell k).trans (ctxRow_up _ A n c k (mxN_len _ _ _) hlt)
          clear CZ CY HP HGR hmax
          go_upto_region 5 with fail
          generalize hw9 : w8.setCell _ _ = w9
          have g9 : w8.grownBy w9 (some g) := by rw [← hw9]; exact grown_cell _ _ _ _
          have P9 := hidd_ (show Bk w9 g 25 (ctxRow (mxN up up' (k + 1)) A n c) by rw [← hw9, ← HST.out]; exact HP8.out.set_ k _)
          have G9 := hidd_ (World.grownBy.trans HG8.out g9)
          clear g9 hw9 hcz hfz HP8 HG8
          go_wp2
          go_roundw
          case rel => exact ⟨k + 1, by omega, by go_num, P9, G9⟩
          case measure => simp [intOf]; omega
        · obtain rfl : k = 16 := by omega
          have d1 : decide (((16 : Nat) : Int) < 16) = false := rfl
          obtain ⟨U, hU⟩ : ∃ l, mxN up up' 16 = l := ⟨_, rfl⟩
          have HUU := hidd_ hU
          have HUL : U.length = 16 := by rw [← hU]; exact mxN_len _ _ _
          rw [hU] at HU16 HP
          have K5 := HP
          have D5 := hidd_ (D3.out.grown HGR.out (fun e => by injection e with e; omega))
          have R5 := hidd_ (R3.out.grown HGR.out (fun e => by injection e with e; omega))
          have X5 := hidd_ (X3.out.grown HGR.out (by omega) (fun k hk => by injection hk with hk; omega))
          have hrg : g + 2 < wr.heap.size := R5.out.lt
          have HRD := hidd_ (HR.out.below X5.out)
          have HRD' := hidd_ (HR'.out.below X5.out)
          have C0 : CrC (g + 2) wr wr := CrC.start R5.out (ctxRow_size _ _ _ _ (by simp))
          have HLN2 := HLN
          obtain ⟨B, hB⟩ : ∃ B, wr.heap.size = B := ⟨_, rfl⟩
          obtain ⟨cat, hcat⟩ : ∃ l, ms ++ ms' = l := ⟨_, rfl⟩
          have HCT := hidd_ hcat
          rw [hcat] at HCD HLN2
          have HU0 := HU
          clear hcat hU HR HR' HGR HP K3 D3 R3 X3 HU
          have HU := hidd_ HUL
          clear HUL
          go_upto_region 7 with fail
          refine region_byJF [32, 33, 34, 35, 36, 37, 38, 39, 40, 41, 42, 43, 5] (CrC (g + 2) wr) (fun _ _ => True) (fun jj v _ => RjR g n c U A jj v) (fun L a W => RkJ B (g + 2) U cat ms ms' (L 2) (L 5) (L 7) (L 8) (L 9) (L 10) (L 11) (L 12) (L 13) (a.tmps.getD 34 undef) (a.tmps.getD 37 undef) (a.tmps.getD 39 undef) (a.tmps.getD 40 undef) (a.tmps.getD 41 undef) (a.tmps.getD 42 undef) (a.tmps.getD 43 undef) (a.tmps.getD 5 undef) W) (by kernel_rfl) (by kernel_rfl) (by kernel_rfl) (by kernel_rfl) (fun j v w w' hT hr => hr) (fun j v w hlt hj _ => ?_) (C0.keep ((Below.refl _ _).drew)) ?_ RkJ.start ?_
          · rcases j with _ | _ | _ | _ | _ | _ | _ | _ | _ | _ | _ | _ | _ | _ | j
            all_goals first
              | (exfalso; simp [dstOf] at hj; done)
              | trivial
          · refine ⟨fun D a W hC hd hsz hf hv hJ hL hW K hK => ?_, fun D a W hC hd hsz hf hv hJ hL hW K hK => ?_, fun D a W hC hd hsz hf hv hJ hL hW K hK => ?_, fun D a W hC hd hsz hf hv hJ hL hW K hK => ?_, fun D a W hC hd hsz hf hv hJ hL hW K hK => ?_, fun D a W hC hd hsz hf hv hJ hL hW K hK => ?_, fun D a W hC hd hsz hf hv hJ hL hW K hK => ?_, fun D a W hC hd hsz hf hv hJ hL hW K hK => ?_, fun D a W hC hd hsz hf hv hJ hL hW K hK => ?_, fun D a W hC hd hsz hf hv hJ hL hW K hK => ?_, fun D a W hC hd hsz hf hv hJ hL hW K hK => ?_, fun D a W hC hd hsz hf hv hJ hL hW K hK => ?_, fun D a W hC hd hsz hf hv hJ hL hW K hK => ?_, fun D a W hC hd hsz hf hv hJ hL hW K hK => ?_, trivial⟩
            · have HSZ : a.tmps.size = 44 := hsz
              have e1 := slot_of (a := a) (s := 2) (v := .pointer (some ⟨g, 0, none⟩)) (hf 2 (by kernel_rfl))
              refine step_run (wanted_none rfl) (v := .pointer (some ⟨g, 0, none⟩)) (w' := W) ?_ (hK _ _ hC trivial rfl (by simp only [put_other (show (34:Nat) ≠ 32 by decide), put_other (show (37:Nat) ≠ 32 by decide), put_other (show (39:Nat) ≠ 32 by decide), put_other (show (40:Nat) ≠ 32 by decide), put_other (show (41:Nat) ≠ 32 by decide), put_other (show (42:Nat) ≠ 32 by decide), put_other (show (43:Nat) ≠ 32 by decide), put_other (show (5:Nat) ≠ 32 by decide)]; exact hJ))
              clear hsz HSZ
              go_simp
            · have HSZ : a.tmps.size = 44 := hsz
              have e1 := eval_of (a := a) (s := 32) (v := .pointer (some ⟨g, 0, none⟩)) (hv 0 (by kernel_rfl))
              have KW := hC.bk K5.out (by omega)
              refine step_load_sub (wanted_none rfl) 22 _ rfl g 0 e1 (intRow U) (fun j hj => by rw [intRow_size, HU.out] at hj; rw [Nat.zero_add, KW.cell j, ctxRow_up U A n c j HU.out hj, intRow_at U j (by have := HU.out; omega)]) _ Try.underlying22 rfl (IU.out U HU.out) (hK _ _ hC trivial rfl (by simp only [put_other (show (34:Nat) ≠ 33 by decide), put_other (show (37:Nat) ≠ 33 by decide), put_other (show (39:Nat) ≠ 33 by decide), put_other (show (40:Nat) ≠ 33 by decide), put_other (show (41:Nat) ≠ 33 by decide), put_other (show (42:Nat) ≠ 33 by decide), put_other (show (43:Nat) ≠ 33 by decide), put_other (show (5:Nat) ≠ 33 by decide)]; exact hJ))
            · have HSZ : a.tmps.size = 44 := hsz
              have hbl : Below W.heap.size W (W.alloc (.cells #[] 27)) := (Below.refl _ _).alloc (Nat.le_refl _) _
              have ho := ownD_lit0 W B (by have := hC.grown.size; omega)
              refine step_run (wanted_none rfl) (v := .slice (some ⟨W.heap.size, 0, none⟩) 0 0) (w' := W.alloc (.cells #[] 27)) ?_ (hK _ _ (hC.keep hbl) trivial trivial (by simp only [put_other (show (37:Nat) ≠ 34 by decide), put_other (show (39:Nat) ≠ 34 by decide), put_other (show (40:Nat) ≠ 34 by decide), put_other (show (41:Nat) ≠ 34 by decide), put_other (show (42:Nat) ≠ 34 by decide), put_other (show (43:Nat) ≠ 34 by decide), put_other (show (5:Nat) ≠ 34 by decide), put_self (show 34 < a.tmps.size by rw [HSZ]; omega)]; exact (hJ.keep hbl).to_e _ ho))
              clear hsz HSZ hbl ho
              go_simp
            · have HSZ : a.tmps.size = 44 := hsz
              have e1 := slot_of (a := a) (s := 2) (v := .pointer (some ⟨g, 0, none⟩)) (hf 2 (by kernel_rfl))
              refine step_run (wanted_none rfl) (v := .pointer (some ⟨g, 16, none⟩)) (w' := W) ?_ (hK _ _ hC trivial rfl (by simp only [put_other (show (34:Nat) ≠ 35 by decide), put_other (show (37:Nat) ≠ 35 by decide), put_other (show (39:Nat) ≠ 35 by decide), put_other (show (40:Nat) ≠ 35 by decide), put_other (show (41:Nat) ≠ 35 by decide), put_other (show (42:Nat) ≠ 35 by decide), put_other (show (43:Nat) ≠ 35 by decide), put_other (show (5:Nat) ≠ 35 by decide)]; exact hJ))
              clear hsz HSZ
              go_simp
            · have HSZ : a.tmps.size = 44 := hsz
              have e1 := slot_of (a := a) (s := 35) (v := .pointer (some ⟨g, 16, none⟩)) (hv 3 (by kernel_rfl))
              have hcx := ((hC.bk K5.out (by omega)).cell 16).trans (ctxRow_more U A n c HU.out)
              refine step_run (wanted_none rfl) (v := .slice A n c) (w' := W) ?_ (hK _ _ hC trivial rfl (by simp only [put_other (show (34:Nat) ≠ 36 by decide), put_other (show (37:Nat) ≠ 36 by decide), put_other (show (39:Nat) ≠ 36 by decide), put_other (show (40:Nat) ≠ 36 by decide), put_other (show (41:Nat) ≠ 36 by decide), put_other (show (42:Nat) ≠ 36 by decide), put_other (show (43:Nat) ≠ 36 by decide), put_other (show (5:Nat) ≠ 36 by decide)]; exact hJ))
              clear hsz HSZ
              go_simp
            · have HSZ : a.tmps.size = 44 := hsz
              obtain ⟨b0, hq, ho⟩ := hJ.he (hW 2 (by kernel_rfl)) hL
              have hBW : B ≤ W.heap.size := by have := hC.grown.size; omega
              have ho2 := ho
              rw [hq] at ho2
              refine step_appD00 rfl (.tmp 34) (.tmp 36) rfl ho2 (eval_of hq) (hC.rd HRD.out (by omega) hrg) n c (eval_of (hv 4 (by kernel_rfl))) HN.out (by omega) hBW ?_
              intro A' c' W' h1 h2
              have hl := HN.out
              exact hK _ _ (hC.keep h2) trivial trivial (by simp only [put_other (show (34:Nat) ≠ 37 by decide), put_other (show (39:Nat) ≠ 37 by decide), put_other (show (40:Nat) ≠ 37 by decide), put_other (show (41:Nat) ≠ 37 by decide), put_other (show (42:Nat) ≠ 37 by decide), put_other (show (43:Nat) ≠ 37 by decide), put_other (show (5:Nat) ≠ 37 by decide), put_self (show 37 < a.tmps.size by rw [HSZ]; omega)]; exact (by rw [← hl] at h1 ⊢; exact (hJ.keep h2).to_p (hW 2 (by kernel_rfl)) h1))
            · have HSZ : a.tmps.size = 44 := hsz
              have e1 := slot_of (a := a) (s := 3) (v := .pointer (some ⟨g + 1, 0, none⟩)) (hf 3 (by kernel_rfl))
              refine step_run (wanted_none rfl) (v := .pointer (some ⟨g + 1, 16, none⟩)) (w' := W) ?_ (hK _ _ hC trivial rfl (by simp only [put_other (show (34:Nat) ≠ 38 by decide), put_other (show (37:Nat) ≠ 38 by decide), put_other (show (39:Nat) ≠ 38 by decide), put_other (show (40:Nat) ≠ 38 by decide), put_other (show (41:Nat) ≠ 38 by decide), put_other (show (42:Nat) ≠ 38 by decide), put_other (show (43:Nat) ≠ 38 by decide), put_other (show (5:Nat) ≠ 38 by decide)]; exact hJ))
              clear hsz HSZ
              go_simp
            · have HSZ : a.tmps.size = 44 := hsz
              have e1 := slot_of (a := a) (s := 38) (v := .pointer (some ⟨g + 1, 16, none⟩)) (hv 6 (by kernel_rfl))
              have hcx := ((hC.bk D5.out (by omega)).cell 16).trans (ctxRow_more up' A' n' c' HU'.out)
              have hrd := hC.rd HRD'.out (by omega) hrg
              have hj := hJ.to_s (A := A') (c := c') hrd
              rw [HN'.out] at hj
              refine step_run (wanted_none rfl) (v := .slice A' n' c') (w' := W) ?_ (hK _ _ hC trivial trivial (by simp only [put_other (show (34:Nat) ≠ 39 by decide), put_other (show (37:Nat) ≠ 39 by decide), put_other (show (40:Nat) ≠ 39 by decide), put_other (show (41:Nat) ≠ 39 by decide), put_other (show (42:Nat) ≠ 39 by decide), put_other (show (43:Nat) ≠ 39 by decide), put_other (show (5:Nat) ≠ 39 by decide), put_self (show 39 < a.tmps.size by rw [HSZ]; omega)]; exact hj))
              clear hsz HSZ hrd hj
              go_simp
            · have HSZ : a.tmps.size = 44 := hsz
              obtain ⟨A1', c1', hq1, ho⟩ := hJ.hp (hW 5 (by kernel_rfl)) hL
              obtain ⟨A2', c2', hq2, hr2⟩ := hJ.hv (hW 7 (by kernel_rfl)) hL
              have hBW : B ≤ W.heap.size := by have := hC.grown.size; omega
              have hlt := ho.lt
              refine step_appDD rfl (.tmp 37) (.tmp 39) rfl ho rfl hr2 (ms').length c2' (eval_of hq2) rfl (by have := HLN.out; rw [List.length_append] at this; omega) hBW ?_
              intro A' c' W' h1 h2
              rw [HCT.out] at h1 ⊢
              exact hK _ _ (hC.own h2 (fun q hq => by have := (hlt q hq).1; omega) hrg) trivial trivial (by simp only [put_other (show (34:Nat) ≠ 40 by decide), put_other (show (37:Nat) ≠ 40 by decide), put_other (show (39:Nat) ≠ 40 by decide), put_other (show (41:Nat) ≠ 40 by decide), put_other (show (42:Nat) ≠ 40 by decide), put_other (show (43:Nat) ≠ 40 by decide), put_other (show (5:Nat) ≠ 40 by decide), put_self (show 40 < a.tmps.size by rw [HSZ]; omega)]; exact hJ.to_k hL (hW 5 (by kernel_rfl)) (hW 7 (by kernel_rfl)) h1)
            · have HSZ : a.tmps.size = 44 := hsz
              obtain ⟨A', c', hq, ho⟩ := hJ.hk (hW 8 (by kernel_rfl)) hL
              have e1 := slot_of (a := a) (s := 33) (v := .agg (intRow U)) (hv 1 (by kernel_rfl))
              have e2 := slot_of hq
              rw [hq] at ho
              have hrd := ho.rd.1
              refine step_callx 47 #[.agg (intRow U), .slice A' cat.length c'] (wanted_none rfl) (w' := W) ?_ ((make_any W U HU16.out A' cat.length c' cat rfl (by have := HLN2.out; omega) hrd HCD.out).mono ?_)
              · clear hsz HSZ hrd
                go_simp
              · rintro e W' ⟨u, m, A2, c2, z, rfl, h1, h2, h3, h4, h5, h6, hg⟩
                have h7 := hC.grown.size
                refine ⟨_, rfl, hK _ _ (hC.keep hg) trivial trivial ?_⟩
                simp only [put_other (show (34:Nat) ≠ 41 by decide), put_other (show (37:Nat) ≠ 41 by decide), put_other (show (39:Nat) ≠ 41 by decide), put_other (show (40:Nat) ≠ 41 by decide), put_other (show (42:Nat) ≠ 41 by decide), put_other (show (43:Nat) ≠ 41 by decide), put_other (show (5:Nat) ≠ 41 by decide), put_self (show 41 < a.tmps.size by rw [HSZ]; omega)]
                exact hJ.to_x hL (hW 8 (by kernel_rfl)) h1 (fun y hy => by have := h2 y hy; omega) h3 h4 h5 h6
            · have HSZ : a.tmps.size = 44 := hsz
              obtain ⟨u, m, A2, c2, z, hq, h1, h2, h3, h4, h5, h6, h7, h8, h9, h10⟩ := hJ.hx (hW 9 (by kernel_rfl))
              have e1 := slot_of hq
              refine step_run (wanted_none rfl) (v := .agg (ctxRow u A2 m.length c2)) (w' := W) ?_ (hK _ _ hC trivial trivial (by simp only [put_other (show (34:Nat) ≠ 42 by decide), put_other (show (37:Nat) ≠ 42 by decide), put_other (show (39:Nat) ≠ 42 by decide), put_other (show (40:Nat) ≠ 42 by decide), put_other (show (41:Nat) ≠ 42 by decide), put_other (show (43:Nat) ≠ 42 by decide), put_other (show (5:Nat) ≠ 42 by decide), put_self (show 42 < a.tmps.size by rw [HSZ]; omega)]; exact hJ.to_s0 (hW 9 (by kernel_rfl)) hq))
              unfold TwoX at e1
              clear hsz HSZ hq h7 h8 h9 h10
              go_simp
            · have HSZ : a.tmps.size = 44 := hsz
              obtain ⟨u, m, A2, c2, z, hq, h1, h2, h3, h4, h5, h6, h7, h8, h9, h10⟩ := hJ.hx (hW 9 (by kernel_rfl))
              have e1 := slot_of hq
              refine step_run (wanted_none rfl) (v := .int .i64 z) (w' := W) ?_ (hK _ _ hC trivial trivial (by simp only [put_other (show (34:Nat) ≠ 43 by decide), put_other (show (37:Nat) ≠ 43 by decide), put_other (show (39:Nat) ≠ 43 by decide), put_other (show (40:Nat) ≠ 43 by decide), put_other (show (41:Nat) ≠ 43 by decide), put_other (show (42:Nat) ≠ 43 by decide), put_other (show (5:Nat) ≠ 43 by decide), put_self (show 43 < a.tmps.size by rw [HSZ]; omega)]; exact hJ.to_s1 (hW 9 (by kernel_rfl)) hq))
              unfold TwoX at e1
              clear hsz HSZ hq h7 h8 h9 h10
              go_simp
            · have HSZ : a.tmps.size = 44 := hsz
              obtain ⟨u, m, A2, c2, z, hq, h1, h2, h3, h4, h5, h6, h7, h8, h9, h10⟩ := hJ.hx (hJ.hs.2.2.2.2.1 (hW 10 (by kernel_rfl)))
              have e1 := eval_of (a := a) (s := 4) (v := .pointer (some ⟨(g + 2), 0, none⟩)) (hf 4 (by kernel_rfl))
              have e2 := eval_of (h7 (hW 10 (by kernel_rfl)))
              obtain ⟨X, hX, hXs⟩ := hC.res
              have IV : (Try.prog.info? 25).map (·.size) = some (ctxRow u A2 m.length c2).size := by rw [ctxRow_size _ _ _ _ h5]; exact iRX_
              refine step_put_row rfl 25 _ _ rfl (g + 2) (ctxRow u A2 m.length c2) e1 e2 25 X hX IV (by rw [hXs, ctxRow_size _ _ _ _ h5]) (ctxRow_one _ _ _ _) ?_
              intro W' k9 g9 s9
              exact hK _ _ (hC.put g9 k9 (ctxRow_size _ _ _ _ h5)) trivial trivial (by simp only [put_none]; exact hJ.to_st (hJ.hs.2.2.2.2.1 (hW 10 (by kernel_rfl))) hq (by omega) g9 k9)
            · have HSZ : a.tmps.size = 44 := hsz
              obtain ⟨u, m, A2, c2, z, hq, h1, h2, h3, h4, h5, h6, h7, h8, h9, h10⟩ := hJ.hx (hJ.hs.2.2.2.2.2.1 (hW 11 (by kernel_rfl)))
              have e1 := slot_of (h8 (hW 11 (by kernel_rfl)))
              refine step_run (wanted_none rfl) (v := .int .i64 z) (w' := W) ?_ (hK _ _ hC trivial trivial (by simp only [put_other (show (34:Nat) ≠ 5 by decide), put_other (show (37:Nat) ≠ 5 by decide), put_other (show (39:Nat) ≠ 5 by decide), put_other (show (40:Nat) ≠ 5 by decide), put_other (show (41:Nat) ≠ 5 by decide), put_other (show (42:Nat) ≠ 5 by decide), put_other (show (43:Nat) ≠ 5 by decide), put_self (show 5 < a.tmps.size by rw [HSZ]; omega)]; exact hJ.to_ae (hJ.hs.2.2.2.2.2.1 (hW 11 (by kernel_rfl))) hq))
              clear hsz HSZ hq h7 h9 h10
              go_simp
          · intro f W hC hv L hL hJ'
            obtain ⟨aE, hJ, hfr⟩ := hJ'
            obtain ⟨u, m, A2, c2, z, hq, h1, h2, h3, h4, h5, h6, h7, h8, h9, h10⟩ := hJ.hx (hL 9 (by decide))
            have hf5 : f 5 = .int .i64 z := by rw [← hfr 5]; exact h10 (hL 13 (by decide))
            have k9 := h9 (hL 12 (by decide))
            have IV := hidd_ (show (Try.prog.info? 25).map (·.size) = some (ctxRow u A2 m.length c2).size by rw [ctxRow_size _ _ _ _ h5]; exact iRX_)
            have XB := hidd_ (X5.out.grown hC.grown (by omega) (fun k hk => by injection hk with hk; omega))
            simp only [framed, List.foldl_cons, List.foldl_nil, List.setIfInBounds_toArray, List.set_cons_succ, List.set_cons_zero, hf5]
            clear hv hC hJ hfr hL hq h7 h8 h9 h10 hf5
            rename_i K hK
            refine hK _ _ ?_
            go_wp2
            exact bodyPost_ret (results_cell_slotD Try.results25 _ _ (g + 2) (v' := .int .i64 z) rfl rfl (run_loadVar_row _ _ _ _ _ (0, 0) _ k9 Try.underlying25 rfl IV.out)) rfl ⟨u, m, A2, c2, z, rfl, h1, fun y hy => by have := h2 y hy; have := HG.out; have := X5.out.size; omega, h3, h4, h5, .inr ⟨⟨HE.out, HE'.out⟩, by rw [HUU.out, HCT.out]; exact h6⟩, by rw [HG.out]; exact XB.out⟩
    · have b1 : (e' == 0) = false := by simpa using he1
      have b2 : (e' != 0) = true := by simpa using he1
      have HQ := hidd_ (show chk up' ms' ≠ 0 by rw [HE'.out]; exact he1)
      clear he1
      go_wp2_with (first
        | (refine wpList_load_row rfl 25 (.tmp 2) rfl g rfl 25 (ctxRow up A n c) (0, 0) _ K1.out Try.underlying25 rfl IX.out ?_)
        | (refine wpList_load_rowWd (by go_simp) 25 (.tmp 3) rfl (g + 1) rfl 25 (ctxRow up' A' n' c') D2.out _ Try.underlying25 rfl IX'.out ?_)
        | (go_at_call 11; ((with_reducible refine cc.mono ?_); clear cc; rintro e w2 ⟨rfl, hb⟩; have X2 := hidd_ (X1.out.trans (hb.mono (by have := HS1.out; omega))); have D2 := hidd_ (D1.out.below hb D1.out.lt); have R2 := hidd_ (R1.out.below hb R1.out.lt); clear hb; have cd := refCheck_any w2 up' HU'.out A' n' c' ms' HN'.out (by omega) hc' ((HR'.out.below X2.out).more (by have := R2.out.lt; omega)); rw [he'] at cd))
        | (go_at_call 11; ((with_reducible refine cd.mono ?_); clear cd; rintro e w3 ⟨rfl, hb⟩; have X3 := hidd_ (X2.out.trans (hb.mono (by have := R2.out.lt; omega))); have R3 := hidd_ (R2.out.below hb R2.out.lt); clear hb))
        | (refine wpList_built rfl 25 _ rfl (ctxRow (List.replicate 16 0) none 0 0) (by kernel_rfl) ?_)
        | (refine wpList_put_row rfl 25 _ _ rfl (g + 2) (ctxRow (List.replicate 16 0) none 0 0) rfl rfl 25 (ctxRow (List.replicate 16 0) none 0 0) R3.out IZ.out rfl (ctxRow_one _ _ _ _) ?_; intro W9 k9 g9 s9))
      refine bodyPost_ret (results_cell_slotD Try.results25 _ _ (g + 2) (v' := .int .i64 1) rfl rfl (run_loadVar_row _ _ _ _ _ (0, 0) _ k9 Try.underlying25 rfl IZ.out)) rfl ⟨List.replicate 16 0, [], none, 0, 1, rfl, RdD.nil, fun y e => (by cases e), Nat.le_refl _, by omega, by simp, .inl ⟨.inr HQ.out, rfl, rfl, rfl⟩, ?_⟩
      rw [HG.out]
      exact X3.out.grown g9 (Nat.le_of_lt (Nat.lt_of_le_of_lt (by omega) R3.out.lt)) (fun k hk => by injection hk with hk; omega)
  · have b1 : (e == 0) = false := by simpa using he0
    have b2 : (e != 0) = true := by simpa using he0
    have HQ := hidd_ (show chk up ms ≠ 0 by rw [HE.out]; exact he0)
    clear he0 he'
    go_wp2_with (first
      | (refine wpList_load_row rfl 25 (.tmp 2) rfl g rfl 25 (ctxRow up A n c) (0, 0) _ K1.out Try.underlying25 rfl IX.out ?_)
      | (refine wpList_load_rowWd (by go_simp) 25 (.tmp 3) rfl (g + 1) rfl 25 (ctxRow up' A' n' c') D2.out _ Try.underlying25 rfl IX'.out ?_)
      | (go_at_call 11; ((with_reducible refine cc.mono ?_); clear cc; rintro e w2 ⟨rfl, hb⟩; have X2 := hidd_ (X1.out.trans (hb.mono (by have := HS1.out; omega)));  have R2 := hidd_ (R1.out.below hb R1.out.lt); clear hb))
      | (go_at_call 11; ((with_reducible refine cd.mono ?_); clear cd; rintro e w3 ⟨rfl, hb⟩; have X3 := hidd_ (X2.out.trans (hb.mono (by have := R2.out.lt; omega))); have R3 := hidd_ (R2.out.below hb R2.out.lt); clear hb))
      | (refine wpList_built rfl 25 _ rfl (ctxRow (List.replicate 16 0) none 0 0) (by kernel_rfl) ?_)
      | (refine wpList_put_row rfl 25 _ _ rfl (g + 2) (ctxRow (List.replicate 16 0) none 0 0) rfl rfl 25 (ctxRow (List.replicate 16 0) none 0 0) R2.out IZ.out rfl (ctxRow_one _ _ _ _) ?_; intro W9 k9 g9 s9))
    refine bodyPost_ret (results_cell_slotD Try.results25 _ _ (g + 2) (v' := .int .i64 1) rfl rfl (run_loadVar_row _ _ _ _ _ (0, 0) _ k9 Try.underlying25 rfl IZ.out)) rfl ⟨List.replicate 16 0, [], none, 0, 1, rfl, RdD.nil, fun y e => (by cases e), Nat.le_refl _, by omega, by simp, .inl ⟨.inl HQ.out, rfl, rfl, rfl⟩, ?_⟩
    rw [HG.out]
    exact X2.out.grown g9 (Nat.le_of_lt (Nat.lt_of_le_of_lt (by omega) R2.out.lt)) (fun k hk => by injection hk with hk; omega)
end Go.Proofs.Ytjflmfmncepeeaa

namespace Go.Proofs.Ytjflmfmncepeeaa
open Go.ChangeShapes Go.WideShapes Go.ChangeAt Go.RowKit
set_option linter.unusedVariables false
set_option linter.unusedSimpArgs false

/-- Of n variables: which are there (al), which are written (st), which values are known (tk); their slots (va), the values (vt). -/
structure VnJ (n B : Nat) (al st tk : Nat → Bool) (va vt : Nat → Value) (W : World) : Prop where
  hs : ∀ i, i < n → st i = true → al i = true ∧ tk i = true
  ex : ∃ (q : Nat → Nat) (X : Nat → Array Value), (∀ i, i < n → al i = true → va i = .pointer (some ⟨q i, 0, none⟩) ∧ B ≤ q i ∧ Bk W (q i) 29 (X i) ∧ (X i).size = 17 ∧ (st i = true → vt i = .agg (X i))) ∧
    ∀ i j, i < n → j < n → i ≠ j → al i = true → al j = true → q i ≠ q j
section
variable {n B : Nat} {al st tk al' st' tk' : Nat → Bool} {va vt va' vt' : Nat → Value} {W W' : World}
theorem VnJ.start (h : ∀ i, i < n → al i = false) (h2 : ∀ i, i < n → st i = false) : VnJ n B al st tk va vt W :=
  ⟨fun i hi e => (by rw [h2 i hi] at e; cases e), fun _ => 0, fun _ => #[], fun i hi e => (by rw [h i hi] at e; cases e), fun i j hi _ _ e _ => (by rw [h i hi] at e; cases e)⟩
/-- Another operation. -/
theorem VnJ.step (h : VnJ n B al st tk va vt W) (hp : ∀ i, i < n → al' i = al i ∧ st' i = st i ∧ va' i = va i ∧ (st i = true → vt' i = vt i) ∧ (tk i = true → tk' i = true)) (hw : Below W.heap.size W W') : VnJ n B al' st' tk' va' vt' W' := by
  obtain ⟨hs, q, X, h1, h2⟩ := h
  refine ⟨fun i hi e => ?_, q, X, fun i hi e => ?_, fun i j hi hj hne e e' => ?_⟩
  · obtain ⟨a1, a2, a3, a4, a5⟩ := hp i hi
    rw [a2] at e
    exact ⟨by rw [a1]; exact (hs i hi e).1, a5 (hs i hi e).2⟩
  · obtain ⟨a1, a2, a3, a4, a5⟩ := hp i hi
    rw [a1] at e
    obtain ⟨b1, b2, b3, b4, b5⟩ := h1 i hi e
    refine ⟨by rw [a3]; exact b1, b2, b3.below hw b3.lt, b4, fun e' => ?_⟩
    rw [a2] at e'
    rw [a4 e']; exact b5 e'
  · rw [(hp i hi).1] at e
    rw [(hp j hj).1] at e'
    exact h2 i j hi hj hne e e'
/-- The k-th variable comes. -/
theorem VnJ.alloc (h : VnJ n B al st tk va vt W) (k : Nat) (hk : k < n) (hf : al k = false) (hB : B ≤ W.heap.size) {Y : Array Value} (hY : Y.size = 17) (hp : ∀ i, i < n → al' i = (decide (i = k) || al i) ∧ st' i = st i ∧ va' i = (if i = k then .pointer (some ⟨W.heap.size, 0, none⟩) else va i) ∧ vt' i = vt i ∧ tk' i = tk i) : VnJ n B al' st' tk' va' vt' (W.alloc (.cells Y 29)) := by
  have hw : Below W.heap.size W (W.alloc (.cells Y 29)) := (Below.refl _ _).alloc (Nat.le_refl _) _
  obtain ⟨hs, q, X, h1, h2⟩ := h
  have hsk : st k = false := by
    cases e : st k with
    | false => rfl
    | true => rw [(hs k hk e).1] at hf; cases hf
  refine ⟨fun i hi e => ?_, fun i => if i = k then W.heap.size else q i, fun i => if i = k then Y else X i, fun i hi e => ?_, fun i j hi hj hne e e' => ?_⟩
  · obtain ⟨a1, a2, a3, a4, a5⟩ := hp i hi
    rw [a2] at e
    refine ⟨by rw [a1, (hs i hi e).1]; simp, by rw [a5]; exact (hs i hi e).2⟩
  · obtain ⟨a1, a2, a3, a4, a5⟩ := hp i hi
    by_cases hik : i = k
    · subst hik
      simp only [if_pos] at *
      refine ⟨a3, hB, Bk.new _ _ _, hY, fun e' => ?_⟩
      rw [a2, hsk] at e'; cases e'
    · simp only [if_neg hik] at *
      rw [a1, decide_eq_false hik, Bool.false_or] at e
      obtain ⟨b1, b2, b3, b4, b5⟩ := h1 i hi e
      exact ⟨by rw [a3]; exact b1, b2, b3.below hw b3.lt, b4, fun e' => by rw [a2] at e'; rw [a4]; exact b5 e'⟩
  · rw [(hp i hi).1] at e
    rw [(hp j hj).1] at e'
    by_cases hik : i = k
    · subst hik
      have hjk : j ≠ i := fun e => hne e.symm
      simp only [if_pos, if_neg hjk]
      rw [decide_eq_false hjk, Bool.false_or] at e'
      have := (h1 j hj e').2.2.1.lt
      omega
    · by_cases hjk : j = k
      · subst hjk
        simp only [if_pos, if_neg hik]
        rw [decide_eq_false hik, Bool.false_or] at e
        have := (h1 i hi e).2.2.1.lt
        omega
      · simp only [if_neg hik, if_neg hjk]
        rw [decide_eq_false hik, Bool.false_or] at e
        rw [decide_eq_false hjk, Bool.false_or] at e'
        exact h2 i j hi hj hne e e'
/-- The k-th variable is written. -/
theorem VnJ.store (h : VnJ n B al st tk va vt W) (k : Nat) (hk : k < n) (ha : al k = true) (ht : tk k = true) {qk : Nat} {R : Array Value} (hq : va k = .pointer (some ⟨qk, 0, none⟩)) (hv : vt k = .agg R) (hR : R.size = 17) (hg : W.grownBy W' (some qk)) (hb : Bk W' qk 29 R) (hp : ∀ i, i < n → al' i = al i ∧ st' i = (decide (i = k) || st i) ∧ va' i = va i ∧ vt' i = vt i ∧ tk' i = tk i) : VnJ n B al' st' tk' va' vt' W' := by
  obtain ⟨hs, q, X, h1, h2⟩ := h
  have hqk : qk = q k := by
    have := hq.symm.trans (h1 k hk ha).1
    injection this with this
    injection this with this
    injection this
  refine ⟨fun i hi e => ?_, q, fun i => if i = k then R else X i, fun i hi e => ?_, fun i j hi hj hne e e' => ?_⟩
  · obtain ⟨a1, a2, a3, a4, a5⟩ := hp i hi
    by_cases hik : i = k
    · subst hik; exact ⟨by rw [a1]; exact ha, by rw [a5]; exact ht⟩
    · rw [a2, decide_eq_false hik, Bool.false_or] at e
      exact ⟨by rw [a1]; exact (hs i hi e).1, by rw [a5]; exact (hs i hi e).2⟩
  · obtain ⟨a1, a2, a3, a4, a5⟩ := hp i hi
    rw [a1] at e
    obtain ⟨b1, b2, b3, b4, b5⟩ := h1 i hi e
    by_cases hik : i = k
    · subst hik
      simp only [if_pos]
      exact ⟨by rw [a3]; exact b1, b2, by rw [← hqk]; exact hb, hR, fun _ => by rw [a4]; exact hv⟩
    · simp only [if_neg hik]
      refine ⟨by rw [a3]; exact b1, b2, b3.grown hg (fun e' => h2 i k hi hk hik e ha (by injection e' with e'; rw [e', hqk])), b4, fun e' => ?_⟩
      rw [a2, decide_eq_false hik, Bool.false_or] at e'
      rw [a4]; exact b5 e'
  · rw [(hp i hi).1] at e
    rw [(hp j hj).1] at e'
    exact h2 i j hi hj hne e e'
/-- What lies in the k-th variable, behind all. -/
theorem VnJ.end_ (h : VnJ n B al st tk va vt W) (k : Nat) (hk : k < n) (hst : st k = true) : ∃ q R, va k = .pointer (some ⟨q, 0, none⟩) ∧ B ≤ q ∧ vt k = .agg R ∧ Bk W q 29 R := by
  obtain ⟨hs, q, X, h1, h2⟩ := h
  obtain ⟨b1, b2, b3, b4, b5⟩ := h1 k hk (hs k hk hst).1
  exact ⟨_, _, b1, b2, b5 hst, b3⟩
end
/-- A value that is a context, its dots in a block of dots. -/
def HasCtx (up : List Int) (ml : List DotV) (v : Value) (W : World) : Prop :=
  ∃ A c, v = .agg (ctxRow up A ml.length c) ∧ RdD W W.heap.size A ml ∧ TyD W A ml ∧ ml.length ≤ c ∧ c ≤ 9223372036854775807
theorem HasCtx.below {up : List Int} {ml : List DotV} {v : Value} {W W' : World} (h : HasCtx up ml v W) (hw : Below W.heap.size W W') : HasCtx up ml v W' := by
  obtain ⟨A, c, e, h1, h2, h3⟩ := h
  exact ⟨A, c, e, (h1.below hw).more hw.size, h2.below hw, h3⟩
/-- What may come to pass: memory is made, or a variable that holds a context is written. -/
def VrT (W W' : World) : Prop := Below W.heap.size W W' ∨ ∃ q X, Bk W q 29 X ∧ W.grownBy W' (some q)
theorem HasCtx.keep {up : List Int} {ml : List DotV} {v : Value} {W W' : World} (h : HasCtx up ml v W) (hT : VrT W W') : HasCtx up ml v W' := by
  rcases hT with hw | ⟨q, X, hb, hg⟩
  · exact h.below hw
  · obtain ⟨A, c, e, h1, h2, h3⟩ := h
    have hne : 0 < ml.length → ∀ b off, A = some ⟨b, off, none⟩ → b ≠ q := fun h0 b off ea eb => by
      obtain ⟨cs, fr, hh⟩ := h2 h0 b off ea
      subst eb
      have := hh.symm.trans hb
      injection this with this
      injection this with _ this _
      exact absurd this (by decide)
    exact ⟨A, c, e, (h1.grownR (Nat.le_refl _) hg hne).more hg.size, h2.grown hg hne, h3⟩
end Go.Proofs.Ytjflmfmncepeeaa

namespace Go.Proofs.Ytjflmfmncepeeaa
open Go.ChangeShapes Go.WideShapes Go.ChangeAt Go.RowKit
set_option linter.unusedVariables false
set_option linter.unusedSimpArgs false

theorem refJoin_v (w : World) (up : List Int) (hu : up.length = 16) (A : Option Addr) (n c : Nat) (ms : List DotV) (hn : ms.length = n) (hn6 : n ≤ 400000) (hc : n ≤ c) (hr : RdD w w.heap.size A ms) (up' : List Int) (hu' : up'.length = 16) (A' : Option Addr) (n' c' : Nat) (ms' : List DotV) (hn' : ms'.length = n') (hn6' : n' ≤ 400000) (hc' : n' ≤ c') (hr' : RdD w w.heap.size A' ms') {u : List Int} {m : List DotV} {z : Int} (hv : JoinV up ms up' ms' u m z) :
    Calls Try.prog 25 #[.agg (ctxRow up A n c), .agg (ctxRow up' A' n' c')] w (TwoV u m z w) := by
  refine (refJoin_any w up hu A n c ms hn hn6 hc hr up' hu' A' n' c' ms' hn' hn6' hc' hr').mono ?_
  rintro e w' ⟨u', m', A', c', z', rfl, h1, h2, h3, h4, h5, h6, h7⟩
  obtain ⟨rfl, rfl, rfl⟩ := joinV_one h6 hv
  exact ⟨A', c', rfl, h1, h2, h3, h4, h7⟩
theorem refAdd_v (w : World) (up : List Int) (hu : up.length = 16) (A : Option Addr) (n c : Nat) (ms : List DotV) (hn : ms.length = n) (hn6 : n ≤ 400000) (hc : n ≤ c) (hr : RdD w w.heap.size A ms) (d : DotV) {u : List Int} {m : List DotV} {z : Int} (hv : AddV up ms d u m z) :
    Calls Try.prog 27 #[.agg (ctxRow up A n c), .agg d.row] w (TwoV u m z w) := by
  refine (refAdd_any w up hu A n c ms hn (by omega) hc hr d).mono ?_
  rintro e w' ⟨u', m', A', c', z', rfl, h1, h2, h3, h4, h5, h6, h7⟩
  obtain ⟨rfl, rfl, rfl⟩ := addV_one h6 hv
  exact ⟨A', c', rfl, h1, h2, h3, h4, h7⟩

set_option maxRecDepth 100000 in
set_option maxHeartbeats 8000000 in
theorem refCovers_any (w : World) (up : List Int) (hu : up.length = 16) (A : Option Addr) (n c : Nat) (ms : List DotV) (hn : ms.length = n) (hn6 : n ≤ 400000) (hc : n ≤ c) (hr : RdD w w.heap.size A ms) (up' : List Int) (hu' : up'.length = 16) (A' : Option Addr) (n' c' : Nat) (ms' : List DotV) (hn' : ms'.length = n') (hn6' : n' ≤ 400000) (hc' : n' ≤ c') (hr' : RdD w w.heap.size A' ms') {u : List Int} {m : List DotV} {z : Int} (hv : JoinV up ms up' ms' u m z) (hul : u.length = 16) (hml : m.length ≤ 32) :
    Calls Try.prog 29 #[.agg (ctxRow up A n c), .agg (ctxRow up' A' n' c')] w fun e w' => e = .returned (.bool (covB up ms u m z)) ∧ Below w.heap.size w w' := by
  obtain ⟨g, hg⟩ : ∃ g, w.heap.size = g := ⟨_, rfl⟩
  obtain ⟨wa, hwa⟩ : ∃ w0, w.alloc (.cells (ctxRow up A n c) 25) = w0 := ⟨_, rfl⟩
  have Ka := show Bk wa g 25 (ctxRow up A n c) by rw [← hwa, ← hg]; exact Bk.new w _ _
  have Xa := show Below g w wa by rw [← hwa, ← hg]; exact (Below.refl _ _).alloc (Nat.le_refl _) _
  have Sa : wa.heap.size = g + 1 := by rw [← hwa, ← hg]; simp
  obtain ⟨w0, hw0⟩ : ∃ w0, wa.alloc (.cells (ctxRow up' A' n' c') 25) = w0 := ⟨_, rfl⟩
  have b0 : Below wa.heap.size wa w0 := by rw [← hw0]; exact (Below.refl _ _).alloc (Nat.le_refl _) _
  have D1 := hidd_ (show Bk w0 (g + 1) 25 (ctxRow up' A' n' c') by rw [← Sa, ← hw0]; exact Bk.new wa _ _)
  have K1 := hidd_ (Ka.below b0 Ka.lt)
  have X1 := hidd_ (Xa.trans (b0.mono (by omega)))
  have hz := zRX_
  have IX := hidd_ (show (Try.prog.info? 25).map (·.size) = some (ctxRow up A n c).size by rw [ctxRow_size up A n c hu]; exact iRX_)
  have IX' := hidd_ (show (Try.prog.info? 25).map (·.size) = some (ctxRow up' A' n' c').size by rw [ctxRow_size _ _ _ _ hu']; exact iRX_)
  have IR := hidd_ (fun A c => (show (Try.prog.info? 25).map (·.size) = some (ctxRow u A m.length c).size by rw [ctxRow_size _ _ _ _ hul]; exact iRX_))
  obtain ⟨q, hq⟩ : ∃ q, covB up ms u m z = q := ⟨_, rfl⟩
  have HQ := hidd_ hq
  rw [hq]
  go_enter Try.func29, Try.ntmps29
  go_upto_region 1 with fail
  rw [hg] at hr hr'
  have HR := hidd_ hr
  have HR' := hidd_ hr'
  have HG := hidd_ hg
  have HU := hidd_ hu
  have HU' := hidd_ hu'
  have HUL := hidd_ hul
  have HN := hidd_ hn
  have HN' := hidd_ hn'
  have HV := hidd_ hv
  have hgl : g + 1 < w0.heap.size := D1.out.lt
  have cc := refCheck_any w0 up hu A n c ms hn (by omega) hc ((hr.below X1.out).more (by omega))
  obtain ⟨e, he⟩ : ∃ e, chk up ms = e := ⟨_, rfl⟩
  have HE := hidd_ he
  rw [he] at cc
  obtain ⟨e', he'⟩ : ∃ e, chk up' ms' = e := ⟨_, rfl⟩
  have HE' := hidd_ he'
  obtain ⟨ml, hmll⟩ : ∃ q, m.length = q := ⟨_, rfl⟩
  have HML := hidd_ hmll
  rw [hmll] at IR hml
  clear hu hu' hn hn' hr hr' he he' Ka Xa b0 hw0 hwa Sa hg hq hv hul hmll
  by_cases he0 : e = 0
  · subst he0
    by_cases he1 : e' = 0
    · subst he1
      go_upto_region 3 with (first
        | (refine wpList_load_row rfl 25 (.tmp 2) rfl g rfl 25 (ctxRow up A n c) (0, 0) _ K1.out Try.underlying25 rfl IX.out ?_)
        | (refine wpList_load_rowWd (by go_simp) 25 (.tmp 3) rfl (g + 1) rfl 25 (ctxRow up' A' n' c') D2.out _ Try.underlying25 rfl IX'.out ?_)
        | (go_at_call 11; ((with_reducible refine cc.mono ?_); clear cc; rintro e w2 ⟨rfl, hb⟩; have X2 := hidd_ (X1.out.trans (hb.mono (by omega))); have D2 := hidd_ (D1.out.below hb D1.out.lt); have K2 := hidd_ (K1.out.below hb K1.out.lt); clear hb; have cd := refCheck_any w2 up' HU'.out A' n' c' ms' HN'.out (by omega) hc' ((HR'.out.below X2.out).more (by have := D2.out.lt; omega)); rw [HE'.out] at cd))
        | (go_at_call 11; ((with_reducible refine cd.mono ?_); clear cd; rintro e w3 ⟨rfl, hb⟩; have X3 := hidd_ (X2.out.trans (hb.mono (by have := D2.out.lt; omega))); have D3 := hidd_ (D2.out.below hb D2.out.lt); have K3 := hidd_ (K2.out.below hb K2.out.lt); clear hb)))
      have hg3 : g + 1 < w3.heap.size := D3.out.lt
      have cj := refJoin_v w3 up HU.out A n c ms HN.out hn6 hc ((HR.out.below X3.out).more (by omega)) up' HU'.out A' n' c' ms' HN'.out hn6' hc' ((HR'.out.below X3.out).more (by omega)) HV.out
      clear X1 X2 D1 D2 K1 K2
      go_upto_region 4 with (first
        | (refine wpList_load_row rfl 25 (.tmp 2) rfl g rfl 25 (ctxRow up A n c) (0, 0) _ K3.out Try.underlying25 rfl IX.out ?_)
        | (refine wpList_load_row rfl 25 (.tmp 3) rfl (g + 1) rfl 25 (ctxRow up' A' n' c') (0, 0) _ D3.out Try.underlying25 rfl IX'.out ?_)
        | (go_at_call 25; ((with_reducible refine cj.mono ?_); clear cj; rintro e w4 ⟨A4, c4, rfl, h1, h2, h3, h4, h5⟩; unfold TwoX; rw [HML.out]; rw [HML.out] at h3; have R4 := hidd_ h1; have X4 := hidd_ (X3.out.trans (h5.mono (by omega))); have K4 := hidd_ (K3.out.below h5 K3.out.lt); have hc4 := h3; have hs4 := h5.size; clear h1 h2 h3 h4 h5))
        | (refine wpList_put_row rfl 25 _ _ rfl w4.heap.size (ctxRow u A4 ml c4) rfl rfl 25 (ctxRow (List.replicate 16 0) none 0 0) (Bk.new w4 _ _) (IR.out _ _) (by rw [ctxRow_size _ _ _ _ HUL.out]; rfl) (ctxRow_one _ _ _ _) ?_; intro w5 k5 g5 s5; have B5 := hidd_ (((Below.refl w4.heap.size w4).alloc (Nat.le_refl _) (.cells (ctxRow (List.replicate 16 0) none 0 0) 25)).grown g5 (by simp) (fun k hk => by injection hk with hk; omega)); have P5 := hidd_ k5; clear k5 g5 s5))
      have K5 := hidd_ (K4.out.below B5.out K4.out.lt)
      have R5 := hidd_ ((R4.out.below B5.out).more B5.out.size)
      have X5 := hidd_ (X4.out.trans (B5.out.mono (by omega)))
      have hg5 : g ≤ w5.heap.size := by have := B5.out.size; omega
      generalize w4.heap.size = p at *
      have ca := refSame_any w5 u HUL.out A4 ml c4 m HML.out (by omega) R5.out up HU.out A n c ms HN.out (by omega) ((HR.out.below X5.out).more hg5)
      obtain ⟨sr, hsr⟩ : ∃ x, sameR u up m ms = x := ⟨_, rfl⟩
      rw [hsr] at ca
      have HSR := hidd_ hsr
      clear hsr
      by_cases hz0 : z = 0
      · have hqs : q = sr := by rw [← HQ.out]; unfold covB; rw [decide_eq_true hz0, HSR.out]; rfl
        subst hz0
        subst hqs
        go_wp2_with (first
          | (refine wpList_load_rowWd (by go_simp) 25 (.tmp 5) rfl p rfl 25 (ctxRow u A4 ml c4) P5.out _ Try.underlying25 rfl (IR.out _ _) ?_)
          | (refine wpList_load_rowWd (by go_simp) 25 (.tmp 2) rfl g rfl 25 (ctxRow up A n c) K5.out _ Try.underlying25 rfl IX.out ?_)
          | (go_at_call 20; ((with_reducible refine ca.mono ?_); clear ca; rintro e w6 ⟨rfl, hb⟩; have X6 := hidd_ (X5.out.trans (hb.mono hg5)); clear hb)))
        go_ret
        exact ⟨rfl, by rw [HG.out]; exact X6.out⟩
      · have hqf : q = false := by rw [← HQ.out]; unfold covB; rw [decide_eq_false hz0]; rfl
        subst hqf
        have z1 : (z == 0) = false := by simpa using hz0
        have z2 : decide (z = 0) = false := decide_eq_false hz0
        clear hz0 ca
        go_wp2
        go_ret
        exact ⟨rfl, by rw [HG.out]; exact X5.out⟩
    · have hqf : q = false := by
        rw [← HQ.out]
        rcases HV.out with ⟨_, _, _, h⟩ | ⟨h, _⟩
        · subst h; rfl
        · exact absurd (HE'.out.symm.trans h.2) he1
      subst hqf
      have b1 : (e' == 0) = false := by simpa using he1
      have b2 : (e' != 0) = true := by simpa using he1
      clear he1
      go_wp2_with (first
        | (refine wpList_load_row rfl 25 (.tmp 2) rfl g rfl 25 (ctxRow up A n c) (0, 0) _ K1.out Try.underlying25 rfl IX.out ?_)
        | (refine wpList_load_rowWd (by go_simp) 25 (.tmp 3) rfl (g + 1) rfl 25 (ctxRow up' A' n' c') D2.out _ Try.underlying25 rfl IX'.out ?_)
        | (go_at_call 11; ((with_reducible refine cc.mono ?_); clear cc; rintro e w2 ⟨rfl, hb⟩; have X2 := hidd_ (X1.out.trans (hb.mono (by omega))); have D2 := hidd_ (D1.out.below hb D1.out.lt); clear hb; have cd := refCheck_any w2 up' HU'.out A' n' c' ms' HN'.out (by omega) hc' ((HR'.out.below X2.out).more (by have := D2.out.lt; omega)); rw [HE'.out] at cd))
        | (go_at_call 11; ((with_reducible refine cd.mono ?_); clear cd; rintro e w3 ⟨rfl, hb⟩; have X3 := hidd_ (X2.out.trans (hb.mono (by have := D2.out.lt; omega))); clear hb)))
      go_ret
      exact ⟨rfl, by rw [HG.out]; exact X3.out⟩
  · have hqf : q = false := by
      rw [← HQ.out]
      rcases HV.out with ⟨_, _, _, h⟩ | ⟨h, _⟩
      · subst h; rfl
      · exact absurd (HE.out.symm.trans h.1) he0
    subst hqf
    have b1 : (e == 0) = false := by simpa using he0
    have b2 : (e != 0) = true := by simpa using he0
    clear he0
    go_wp2_with (first
      | (refine wpList_load_row rfl 25 (.tmp 2) rfl g rfl 25 (ctxRow up A n c) (0, 0) _ K1.out Try.underlying25 rfl IX.out ?_)
      | (go_at_call 11; ((with_reducible refine cc.mono ?_); clear cc; rintro e w2 ⟨rfl, hb⟩; have X2 := hidd_ (X1.out.trans (hb.mono (by omega))); clear hb)))
    go_ret
    exact ⟨rfl, by rw [HG.out]; exact X2.out⟩
end Go.Proofs.Ytjflmfmncepeeaa

namespace Go.Proofs.Ytjflmfmncepeeaa
open Go.ChangeShapes Go.WideShapes Go.ChangeAt Go.RowKit
set_option linter.unusedVariables false
set_option linter.unusedSimpArgs false

structure CV.atR (w : World) (X : CV) : Prop where
  bk : Bk w X.p 25 X.row
  ok : X.ok w
theorem CV.atR.below {w w' : World} {X : CV} (h : X.atR w) (hb : Below w.heap.size w w') : X.atR w' := ⟨h.bk.below hb h.bk.lt, h.ok.below hb⟩
def AllR (w : World) (l : List CV) : Prop := ∀ X ∈ l, X.atR w
theorem AllR.below {w w' : World} {l : List CV} (h : AllR w l) (hb : Below w.heap.size w w') : AllR w' l := fun X hX => (h X hX).below hb
theorem AllR.cons {w : World} {l : List CV} {X : CV} (h : AllR w l) (hX : X.atR w) : AllR w (X :: l) := fun Y hY => by
  rcases List.mem_cons.1 hY with e | e
  · subst e; exact hX
  · exact h Y e
theorem CV.infoR (X : CV) (h : X.u.length = 16) : (Try.prog.info? 25).map (·.size) = some X.row.size := by
  unfold CV.row
  rw [ctxRow_size _ _ _ _ h]; exact iRX_
theorem refJoinC (w : World) (X Y : CV) (hX : X.ok w) (hY : Y.ok w) {u : List Int} {m : List DotV} {z : Int} (hv : JoinV X.u X.m Y.u Y.m u m z) :
    Calls Try.prog 25 #[.agg X.row, .agg Y.row] w (TwoV u m z w) :=
  refJoin_v w X.u hX.up X.A X.m.length X.c X.m rfl hX.few hX.len hX.rd Y.u hY.up Y.A Y.m.length Y.c Y.m rfl hY.few hY.len hY.rd hv
theorem refAddC (w : World) (X : CV) (hX : X.ok w) (d : DotV) {u : List Int} {m : List DotV} {z : Int} (hv : AddV X.u X.m d u m z) :
    Calls Try.prog 27 #[.agg X.row, .agg d.row] w (TwoV u m z w) := refAdd_v w X.u hX.up X.A X.m.length X.c X.m rfl hX.few hX.len hX.rd d hv
theorem refSameC (w : World) (X Y : CV) (hX : X.ok w) (hY : Y.ok w) :
    Calls Try.prog 20 #[.agg X.row, .agg Y.row] w fun e w' => e = .returned (.bool (sameR X.u Y.u X.m Y.m)) ∧ Below w.heap.size w w' :=
  refSame_any w X.u hX.up X.A X.m.length X.c X.m rfl (by have := hX.few; omega) hX.rd Y.u hY.up Y.A Y.m.length Y.c Y.m rfl (by have := hY.few; omega) hY.rd
theorem refCoversC (w : World) (X Y : CV) (hX : X.ok w) (hY : Y.ok w) {u : List Int} {m : List DotV} {z : Int} (hv : JoinV X.u X.m Y.u Y.m u m z) (hul : u.length = 16) (hml : m.length ≤ 32) :
    Calls Try.prog 29 #[.agg X.row, .agg Y.row] w fun e w' => e = .returned (.bool (covB X.u X.m u m z)) ∧ Below w.heap.size w w' :=
  refCovers_any w X.u hX.up X.A X.m.length X.c X.m rfl hX.few hX.len hX.rd Y.u hY.up Y.A Y.m.length Y.c Y.m rfl hY.few hY.len hY.rd hv hul hml
theorem fromC (w : World) (X : CV) (hX : X.ok w) : Calls Try.prog 21 #[.agg X.row] w fun e w' => e = .returned (.agg X.row) ∧ Below w.heap.size w w' :=
  from_any w X.u hX.up X.A X.m.length X.c
theorem addV_len {up : List Int} {ms : List DotV} {d : DotV} {u : List Int} {m : List DotV} {z : Int} (hu : up.length = 16) (hf : ms.length ≤ 400000) (h : AddV up ms d u m z) : u.length = 16 ∧ m.length ≤ 32 := by
  rcases h with ⟨_, rfl, rfl, _⟩ | ⟨h0, st, hst, h | h⟩
  · exact ⟨by simp, by simp⟩
  · obtain ⟨_, rfl, rfl, _⟩ := h; exact ⟨by simp, by simp⟩
  · obtain ⟨hl, rfl, rfl, _⟩ := h; exact ⟨hst.1.up16.1, hl⟩
/-- What lies in the boxes. -/
structure DjW (w : World) (g : Nat) (RA RB : CV) (d : DotV) (lv lr : List CV) (W : World) : Prop where
  ka : Bk W g 25 RA.row
  kb : Bk W (g + 1) 25 RB.row
  kd : Bk W (g + 2) 27 d.row
  oka : RA.ok W
  okb : RB.ok W
  v : AllV W lv
  r : AllR W lr
  x : Below g w W
section
variable {w W W' w8 : World} {g f : Nat} {RA RB : CV} {d : DotV} {lv lr : List CV} {ag : Array Value} {v : Ending}
theorem DjW.below (h : DjW w g RA RB d lv lr W) (hb : Below W.heap.size W W') : DjW w g RA RB d lv lr W' :=
  ⟨h.ka.below hb h.ka.lt, h.kb.below hb h.kb.lt, h.kd.below hb h.kd.lt, h.oka.below hb, h.okb.below hb, h.v.below hb, h.r.below hb, h.x.trans (hb.mono (Nat.le_of_lt h.ka.lt))⟩
theorem DjW.lift (h : ∀ W, DjW w g RA RB d lv lr W → Calls Try.prog f ag W fun e w' => e = v ∧ Below W.heap.size W w') (W : World) (hW : DjW w g RA RB d lv lr W) :
    Calls Try.prog f ag W fun e w' => e = v ∧ DjW w g RA RB d lv lr w' :=
  (h W hW).mono fun e w' hh => ⟨hh.1, hW.below hh.2⟩
end
/-- Memory is made, or a variable of the document's contexts is written. -/
def VsT (W W' : World) : Prop := Below W.heap.size W W' ∨ ∃ q X, Bk W q 25 X ∧ W.grownBy W' (some q)
theorem HasCtx.keepR {up : List Int} {ml : List DotV} {v : Value} {W W' : World} (h : HasCtx up ml v W) (hT : VsT W W') : HasCtx up ml v W' := by
  rcases hT with hw | ⟨q, X, hb, hg⟩
  · exact h.below hw
  · obtain ⟨A, c, e, h1, h2, h3⟩ := h
    have hne : 0 < ml.length → ∀ b off, A = some ⟨b, off, none⟩ → b ≠ q := fun h0 b off ea eb => by
      obtain ⟨cs, fr, hh⟩ := h2 h0 b off ea
      subst eb
      have := hh.symm.trans hb
      injection this with this
      injection this with _ this _
      exact absurd this (by decide)
    exact ⟨A, c, e, (h1.grownR (Nat.le_refl _) hg hne).more hg.size, h2.grown hg hne, h3⟩
/-- Two boxes that are read, and written anew. -/
structure TwJ (w : World) (g : Nat) (d : DotV) (ra rb : Array Value) (L : Nat → Bool) (va vb : Value) (W : World) : Prop where
  x : Below g w W
  kd : Bk W (g + 2) 27 d.row
  ka : ∃ X, Bk W g 25 X ∧ X.size = 17 ∧ (L 4 = false → X = ra) ∧ (L 4 = true → va = .agg X)
  kb : ∃ X, Bk W (g + 1) 25 X ∧ X.size = 17 ∧ (L 5 = false → X = rb) ∧ (L 5 = true → vb = .agg X)
  h4 : L 4 = true → L 1 = true
  h1 : L 1 = true → L 0 = true
  h5 : L 5 = true → L 3 = true
  h3 : L 3 = true → L 2 = true
section
variable {w W W' : World} {g : Nat} {d : DotV} {ra rb : Array Value} {L : Nat → Bool} {va vb va' vb' : Value}
theorem TwJ.size (h : TwJ w g d ra rb L va vb W) : g ≤ W.heap.size := by
  have := h.kd.lt
  omega
theorem TwJ.reslot (h : TwJ w g d ra rb (fun _ => false) va vb W) : TwJ w g d ra rb (fun _ => false) va' vb' { W with drawn := W.drawn + 1 } := by
  obtain ⟨X, a1, a2, a3, a4⟩ := h.ka
  obtain ⟨Y, b1, b2, b3, b4⟩ := h.kb
  exact ⟨h.x.drew, h.kd, ⟨X, a1, a2, a3, fun e => Bool.noConfusion e⟩, ⟨Y, b1, b2, b3, fun e => Bool.noConfusion e⟩, fun e => Bool.noConfusion e, fun e => Bool.noConfusion e, fun e => Bool.noConfusion e, fun e => Bool.noConfusion e⟩
theorem TwJ.op (h : TwJ w g d ra rb L va vb W) (hb : Below W.heap.size W W') (n : Nat) (hn : n < 4) (hL : L n = false) (h10 : n = 1 → L 0 = true) (h32 : n = 3 → L 2 = true) (hva : n ≠ 1 → va' = va) (hvb : n ≠ 3 → vb' = vb) : TwJ w g d ra rb (fun j => decide (j = n) || L j) va' vb' W' := by
  obtain ⟨X, a1, a2, a3, a4⟩ := h.ka
  obtain ⟨Y, b1, b2, b3, b4⟩ := h.kb
  have e4 : (decide (4 = n) || L 4) = L 4 := orf_ne (by omega)
  have e5 : (decide (5 = n) || L 5) = L 5 := orf_ne (by omega)
  refine ⟨h.x.trans (hb.mono h.size), h.kd.below hb h.kd.lt, ⟨X, a1.below hb a1.lt, a2, fun e => a3 (by simpa only [e4] using e), fun e => ?_⟩, ⟨Y, b1.below hb b1.lt, b2, fun e => b3 (by simpa only [e5] using e), fun e => ?_⟩, fun e => ?_, fun e => ?_, fun e => ?_, fun e => ?_⟩
  · have e' : L 4 = true := by simpa only [e4] using e
    rw [hva (fun hn1 => by subst hn1; have := h.h4 e'; rw [hL] at this; cases this)]
    exact a4 e'
  · have e' : L 5 = true := by simpa only [e5] using e
    rw [hvb (fun hn1 => by subst hn1; have := h.h5 e'; rw [hL] at this; cases this)]
    exact b4 e'
  · have e' : L 4 = true := by simpa only [e4] using e
    simp [h.h4 e']
  · by_cases hn1 : n = 1
    · subst hn1; simp [h10 rfl]
    · have e' : L 1 = true := by simpa only [orf_ne (L := L) (show 1 ≠ n from fun q => hn1 q.symm)] using e
      simp [h.h1 e']
  · have e' : L 5 = true := by simpa only [e5] using e
    simp [h.h5 e']
  · by_cases hn1 : n = 3
    · subst hn1; simp [h32 rfl]
    · have e' : L 3 = true := by simpa only [orf_ne (L := L) (show 3 ≠ n from fun q => hn1 q.symm)] using e
      simp [h.h3 e']
theorem TwJ.st4 (h : TwJ w g d ra rb L va vb W) (h1 : L 1 = true) {R : Array Value} (hv : va = .agg R) (hR : R.size = 17) (hg : W.grownBy W' (some g)) (hb : Bk W' g 25 R) : TwJ w g d ra rb (fun j => decide (j = 4) || L j) va vb W' := by
  obtain ⟨Y, b1, b2, b3, b4⟩ := h.kb
  refine ⟨⟨hg.os.trans h.x.os, hg.tape.trans h.x.tape, hg.output.trans h.x.output, Nat.le_trans h.x.size hg.size, fun b hb => (hg.block b (by have := h.size; omega) (fun e => by injection e with e; omega)).trans (h.x.block b hb)⟩, h.kd.grown hg (fun e => by injection e with e; omega), ⟨R, hb, hR, fun e => by simp at e, fun _ => hv⟩, ⟨Y, b1.grown hg (fun e => by injection e with e; omega), b2, fun e => b3 (by simpa using e), fun e => b4 (by simpa using e)⟩, fun _ => by simp [h1], fun e => by simp [h.h1 h1], fun e => by simp [h.h5 (by simpa using e)], fun e => by simp [h.h3 (by simpa using e)]⟩
theorem TwJ.st5 (h : TwJ w g d ra rb L va vb W) (h3 : L 3 = true) {R : Array Value} (hv : vb = .agg R) (hR : R.size = 17) (hg : W.grownBy W' (some (g + 1))) (hb : Bk W' (g + 1) 25 R) : TwJ w g d ra rb (fun j => decide (j = 5) || L j) va vb W' := by
  obtain ⟨Y, b1, b2, b3, b4⟩ := h.ka
  refine ⟨⟨hg.os.trans h.x.os, hg.tape.trans h.x.tape, hg.output.trans h.x.output, Nat.le_trans h.x.size hg.size, fun b hb => (hg.block b (by have := h.size; omega) (fun e => by injection e with e; omega)).trans (h.x.block b hb)⟩, h.kd.grown hg (fun e => by injection e with e; omega), ⟨Y, b1.grown hg (fun e => by injection e with e; omega), b2, fun e => b3 (by simpa using e), fun e => b4 (by simpa using e)⟩, ⟨R, hb, hR, fun e => by simp at e, fun _ => hv⟩, fun e => by simp [h.h4 (by simpa using e)], fun e => by simp [h.h1 (by simpa using e)], fun e => by simp [h3], fun e => by simp [h.h3 h3]⟩
theorem TwJ.a0 (h : TwJ w g d ra rb L va vb W) (hL : L 0 = false) : Bk W g 25 ra := by
  obtain ⟨X, a1, a2, a3, a4⟩ := h.ka
  have : L 4 = false := by cases e : L 4 with | false => rfl | true => have := h.h1 (h.h4 e); rw [hL] at this; cases this
  rw [← a3 this]; exact a1
theorem TwJ.b0 (h : TwJ w g d ra rb L va vb W) (hL : L 2 = false) : Bk W (g + 1) 25 rb := by
  obtain ⟨X, a1, a2, a3, a4⟩ := h.kb
  have : L 5 = false := by cases e : L 5 with | false => rfl | true => have := h.h3 (h.h5 e); rw [hL] at this; cases this
  rw [← a3 this]; exact a1
end
def TwR (ra rb : Array Value) (ua ub : List Int) (la lb : List DotV) : Nat → Value → World → Prop
  | 0, v, _ => v = .agg ra
  | 1, v, W => HasCtx ua la v W
  | 2, v, _ => v = .agg rb
  | 3, v, W => HasCtx ub lb v W
  | _, _, _ => True
theorem TwR.keep {ra rb : Array Value} {ua ub : List Int} {la lb : List DotV} (j : Nat) (v : Value) (W W' : World) (hT : VsT W W') (h : TwR ra rb ua ub la lb j v W) : TwR ra rb ua ub la lb j v W' := by
  rcases j with _ | _ | _ | _ | j
  · exact h
  · exact HasCtx.keepR h hT
  · exact h
  · exact HasCtx.keepR h hT
  · exact h
theorem TwR.keepV {ra rb : Array Value} {ua ub : List Int} {la lb : List DotV} (j : Nat) (v : Value) (W W' : World) (hT : VrT W W') (h : TwR ra rb ua ub la lb j v W) : TwR ra rb ua ub la lb j v W' := by
  rcases j with _ | _ | _ | _ | j
  · exact h
  · exact HasCtx.keep h hT
  · exact h
  · exact HasCtx.keep h hT
  · exact h
end Go.Proofs.Ytjflmfmncepeeaa
