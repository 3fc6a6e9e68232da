/-
  casketref22.Read: what stands in memory while a message of the document's is read.
-/
import Derived.Test.YtnlipmcnpekifaaMop
namespace Go.Proofs.Ytnlipmcnpekifaa
set_option maxRecDepth 100000
open Go.RowKit
set_option linter.unusedVariables false
set_option linter.unusedSimpArgs false

structure RrS (w : World) (g gM gi : Nat) (q : RmV) (l : List UInt8) (e : Int) (W : World) : Prop where
  r0 : Bk W g 28 (rmC rmZ)
  m : Bk W gM 28 (rmC q)
  inf : RiL W gi l e
  bel : Below g w W
  ord : g < gi ∧ gi < gM
section
variable {w W W' : World} {g gM gi : Nat} {q q' : RmV} {l l' : List UInt8} {e e' : Int}
theorem RrS.read (h : RrS w g gM gi q l e W) (hi : RiL W' gi l' e') (hu : Untouched [gi] W W') : RrS w g gM gi q l' e' W' := by
  have h1 := h.ord
  exact ⟨h.r0.untouched hu (by simp; omega), h.m.untouched hu (by simp; omega), hi, h.bel.trans (hu.below (fun k hk => by rw [List.mem_singleton.1 hk]; omega) (Nat.le_of_lt h.r0.lt)), h.ord⟩
theorem RrS.put (h : RrS w g gM gi q l e W) (hb : Bk W' gM 28 (rmC q')) (hu : Untouched [gM] W W') : RrS w g gM gi q' l e W' := by
  have h1 := h.ord
  exact ⟨h.r0.untouched hu (by simp; omega), hb, h.inf.unt hu (by simp; omega), h.bel.trans (hu.below (fun k hk => by rw [List.mem_singleton.1 hk]; omega) (Nat.le_of_lt h.r0.lt)), h.ord⟩
theorem RrS.low (h : RrS w g gM gi q l e W) (hb : Below W.heap.size W W') : RrS w g gM gi q l e W' :=
  ⟨h.r0.below hb h.r0.lt, h.m.below hb h.m.lt, h.inf.below hb h.inf.lt, h.bel.trans (hb.mono (Nat.le_of_lt h.r0.lt)), h.ord⟩
theorem RrS.drew_ (h : RrS w g gM gi q l e W) : RrS w g gM gi q l e W.drew := h.low (below_drewN (Below.refl _ _) 1)
theorem RrS.grow {own : Option Nat} (h : RrS w g gM gi q l e W) (hg : W.grownBy W' own) (ho : ∀ k, own = some k → gM + 1 ≤ k) : RrS w g gM gi q l e W' := by
  have h1 := h.ord
  exact ⟨h.r0.grown hg (fun e => by have := ho _ e.symm; omega), h.m.grown hg (fun e => by have := ho _ e.symm; omega), h.inf.grown hg (fun e => by have := ho _ e.symm; omega), h.bel.grown hg (Nat.le_of_lt h.r0.lt) (fun k hk => by have := ho _ hk; omega), h.ord⟩
theorem RrS.small (h : RrS w g gM gi q l e W) (most : Int) (w0 : -9223372036854775808 ≤ most) (w1 : most ≤ 9223372036854775807) {v : Int} (hv : numS 1 most l e = (v, l', e')) :
    Calls Try.prog 41 #[.pointer (some ⟨gi, 0, none⟩), .int .i64 most] W fun r w' => r = .returned (.int .i64 v) ∧ RrS w g gM gi q l' e' w' ∧ Untouched [gi] W w' := by
  refine (small_r W gi most l e h.inf w0 w1).mono fun r w' hh => ?_
  unfold RvP at hh
  rw [hv] at hh
  exact ⟨hh.1, h.read hh.2.1 hh.2.2, hh.2.2⟩
theorem RrS.num (h : RrS w g gM gi q l e W) (most : Int) (w0 : -9223372036854775808 ≤ most) (w1 : most ≤ 9223372036854775807) {v : Int} (hv : numS 8 most l e = (v, l', e')) :
    Calls Try.prog 42 #[.pointer (some ⟨gi, 0, none⟩), .int .i64 most] W fun r w' => r = .returned (.int .i64 v) ∧ RrS w g gM gi q l' e' w' ∧ Untouched [gi] W w' := by
  refine (num_r W gi most l e h.inf w0 w1).mono fun r w' hh => ?_
  unfold RvP at hh
  rw [hv] at hh
  exact ⟨hh.1, h.read hh.2.1 hh.2.2, hh.2.2⟩
end
/-- The same with the key filled up. -/
def nrm (m : MgV) : MgV := { m with row := ⟨pad32 m.row.key, m.row.set⟩ }
theorem nrm_id {m : MgV} (h : m.row.key.length = 32) : nrm m = m := by
  unfold nrm
  rw [pad32_id h]
/-- What the document's Read tells. -/
def RdRP (l : List UInt8) (w : World) (e : Ending) (w' : World) : Prop :=
  ∃ (q : RmV) (ok : Bool), e = .returned (.tuple #[.agg (rmC q), .bool ok]) ∧ Below w.heap.size w w' ∧ q.Ok w' w'.heap.size ∧ q.ats.length ≤ 255 ∧ q.digs.length ≤ 255 ∧ q.rows.length ≤ 255 ∧ q.key.length ≤ 32 ∧ (endS (rdMg l).2.1 (rdMg l).2.2 = 0 → ok = true ∧ nrm q.v = (rdMg l).1) ∧ (endS (rdMg l).2.1 (rdMg l).2.2 ≠ 0 → ok = false ∧ q = rmZ)
theorem built_90 (l : List UInt8) : Try.prog.built 90 [(0, .string (strOf l))] = some #[.string (strOf l), .int .i64 0] := by kernel_rfl
def rm0 (k : Int) : RmV := ⟨k, 0, 0, 0, 0, 0, [], [], [], none, 0, [], none, 0, [], none, 0⟩
theorem built_rmk (k : Int) : Try.prog.built 28 [(0, .int .i64 k)] = some (rmC (rm0 k)) := by kernel_rfl
theorem rmZ_ok (w : World) (B : Nat) : rmZ.Ok w B := ⟨RdG.nil, RdG.nil, RdG.nil⟩
theorem endS_err (l : List UInt8) (e : Int) (h : e ≠ 0) : endS l e = e := by unfold endS; rw [if_pos h]
section
variable {α : Type} {N : Enc α} {ts te : TypeId} {by_ : Nat} {ops : Array Oper} {o : Oper} {a : Act} {w : World} {Q : Exit → Act → World → Prop} {K : Act → World → Prop} {E : Prop} {base : Nat} {v : Value} {l : List α}
theorem step_oneGg (N : Enc α) (hts : Try.prog.underlying ts = some (.slice te)) (hinfo : (Try.prog.info? te).map (fun i => (i.size, i.bytes, i.zero.map (·.cells.size))) = some (N.k, by_, some N.k)) (hk : N.k ≤ 1000)
    (hgd : o.guard = none) (y : Operand) (ho : o.op = .buildSlice ts 1 #[(0, y)]) (cs : Array Value) (hx : a.eval y = .agg cs) (x : α) (hcs : cs = (N.c x).toArray)
    (hK : K (a.put o.dst (.slice (some ⟨w.heap.size, 0, none⟩) 1 1)) (w.alloc (.cells cs te))) : if Region.wanted o (yielded ops a.tmps) = true then Oper.wp Try.prog o a w K Q else E :=
  step_oneG N hts hinfo hk (by simp [Region.wanted, hgd]) y ho cs hx x hcs hK
theorem step_appGg (hgd : o.guard = none) (s x : Operand)
    (ho : o.op = .call { callee := .builtin .append, args := #[s, x], argTypes := #[ts, ts] })
    (hts : Try.prog.underlying ts = some (.slice te)) (hinfo : (Try.prog.info? te).map (fun i => (i.size, i.bytes, i.zero.map (·.cells.size))) = some (N.k, by_, some N.k))
    (h : OwnG N te w base v l) (hs : a.eval s = v) {B : Nat} {A : Option Addr} {m : List α} (n c : Nat) (hx : a.eval x = .slice A n c) (hr : RdG N w B A m) (hn : m.length = n)
    (hsz : (l.length + n) * by_ ≤ 140737488355328) (hby0 : 0 < by_) (hbase : base ≤ w.heap.size)
    (hK : ∀ A' c' w', OwnG N te w' base (.slice A' (l.length + n) c') (l ++ m) → w.grownBy w' v.ownBlock → ((Value.slice A' (l.length + n) c').ownBlock = v.ownBlock ∨ (Value.slice A' (l.length + n) c').ownBlock = some w.heap.size) → K (a.put o.dst (.slice A' (l.length + n) c')) w') : if Region.wanted o (yielded ops a.tmps) = true then Oper.wp Try.prog o a w K Q else E := by
  have hw : Region.wanted o (yielded ops a.tmps) = true := by simp [Region.wanted, hgd]
  rw [if_pos hw]
  exact wp_appG s x ho hts hinfo h hs n c hx hr hn hsz hby0 hbase hK
end
theorem rr_ones (x y : List UInt8) : ∀ v ∈ (rr x y).toList, v.oneCell' = true := fun v hv => by
  have h : v = .string (strOf x) ∨ v = .string (strOf y) := by simpa [rr] using hv
  rcases h with rfl | rfl <;> rfl
theorem e5_zero {β : Type} {f : List UInt8 → Int → β × List UInt8 × Int} {k : Nat} {l5 l6 l7 : List UInt8} {e5 e6 e7 : Int} {ms : List β} (hc : numS 1 255 l5 e5 = ((k : Int), l6, e6)) (hx : rdF f k l6 e6 = (ms, l7, e7)) (he : e7 = 0) (hf : ∀ l e, e ≠ 0 → (f l e).2 = (l, e) := by first | exact digF_off | exact rowF_off) : e5 = 0 := by
  by_cases h5 : e5 = 0
  · exact h5
  · exfalso
    have h6 : e6 = e5 := by
      have := numS_off (size := 1) (most := 255) (l := l5) h5
      rw [hc] at this
      injection this with _ h
      injection h with _ h
    have h7 := rdF_off (l := l6) hf (show e6 ≠ 0 by rw [h6]; exact h5) k
    rw [hx] at h7
    injection h7 with _ h
    rw [h, h6] at he
    exact h5 he
theorem eb6 {f a v : Int} {l3 l4 l5 l6 : List UInt8} {e3 e4 e5 e6 ek : Int} {Xc : List Int} {n : Nat} (h4 : numS 1 4 l3 e3 = (v, l4, e4)) (ha : cntF atF l4 e4 = (Xc, l5, e5)) (hc : numS 1 255 l5 e5 = ((n : Int), l6, e6)) (hr : (rdF digF n l6 e6).2.2 = ek) (he : ek ≠ 0) : endS (rdBody 6 f a l3 e3).2.1 (rdBody 6 f a l3 e3).2.2 ≠ 0 := by
  have h : (rdBody 6 f a l3 e3).2 = (rdF digF n l6 e6).2 := by
    unfold rdBody
    simp [h4, ha, cntF_of hc (show rdF digF (n : Int).toNat l6 e6 = _ from rfl)]
  rw [h, hr, endS_err _ _ he]
  exact he
theorem eb7 {f a : Int} {l3 l4 l5 : List UInt8} {e3 e4 e5 ek : Int} {Xc : List Int} {n : Nat} (ha : cntF atF l3 e3 = (Xc, l4, e4)) (hc : numS 1 255 l4 e4 = ((n : Int), l5, e5)) (hr : (rdF rowF n l5 e5).2.2 = ek) (he : ek ≠ 0) : endS (rdBody 7 f a l3 e3).2.1 (rdBody 7 f a l3 e3).2.2 ≠ 0 := by
  have h : (rdBody 7 f a l3 e3).2 = (rdF rowF n l5 e5).2 := by
    unfold rdBody
    simp [ha, cntF_of hc (show rdF rowF (n : Int).toNat l5 e5 = _ from rfl)]
  rw [h, hr, endS_err _ _ he]
  exact he
end Go.Proofs.Ytnlipmcnpekifaa
