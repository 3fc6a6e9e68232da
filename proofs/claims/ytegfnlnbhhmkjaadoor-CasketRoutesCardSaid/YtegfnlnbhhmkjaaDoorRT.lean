/-
  Merged: Stt Rtz Tos Mou Rta Rtb.
-/
import Derived.Test.YtegfnlnbhhmkjaaDoorMC
import Derived.Test.YtegfnlnbhhmkjaaDoorAm
import Derived.Test.YtegfnlnbhhmkjaaDoorChj
import Derived.Test.YtegfnlnbhhmkjaaDoorRB
import Derived.Lib.AppendZerosOnto
import Derived.Lib.ConvBytes
import Derived.Test.YtegfnlnbhhmkjaaDoorR3
import Derived.Test.YtegfnlnbhhmkjaaDoorDn
import Derived.Test.YtegfnlnbhhmkjaaDoorLc
import Derived.Test.YtegfnlnbhhmkjaaDoorOa
import Derived.Lib.SlBytesConst
import Derived.Test.YtegfnlnbhhmkjaaDoorMA
import Derived.Test.YtegfnlnbhhmkjaaDoorRW
import Derived.Test.YtegfnlnbhhmkjaaDoorVE
import Derived.Test.YtegfnlnbhhmkjaaDoorMog
import Derived.Test.YtegfnlnbhhmkjaaDoorRK
import Derived.Test.YtegfnlnbhhmkjaaDoorRF
import Derived.Test.YtegfnlnbhhmkjaaDoorGR
import Derived.Test.YtegfnlnbhhmkjaaDoorMK
import Derived.Stop.BytesEq
namespace Go.Proofs.YtegfnlnbhhmkjaaDoor
set_option maxRecDepth 100000
open Go.ChangeShapes Go.WideShapes Go.ChangeAt Go.RowKit
set_option linter.unusedVariables false
set_option linter.unusedSimpArgs false

/-- All blocks from g on stay but those of the types ts. -/
structure StT (ts : List TypeId) (g : Nat) (w w' : World) : Prop where
  size : w.heap.size ≤ w'.heap.size
  keep : ∀ b cs u m, g ≤ b → w.heap[b]? = some (.cells cs u m) → u ∉ ts → w'.heap[b]? = some (.cells cs u m)
section
variable {ts ss : List TypeId} {g h : Nat} {w w' w2 : World}
theorem StT.refl (ts : List TypeId) (g : Nat) (w : World) : StT ts g w w := ⟨Nat.le_refl _, fun _ _ _ _ _ h _ => h⟩
theorem StT.trans (a : StT ts g w w') (b : StT ts g w' w2) : StT ts g w w2 := ⟨Nat.le_trans a.size b.size, fun k cs u m hk hb hu => b.keep k cs u m hk (a.keep k cs u m hk hb hu) hu⟩
theorem StT.more (a : StT ts g w w') (hs : ∀ t ∈ ts, t ∈ ss) : StT ss g w w' := ⟨a.size, fun k cs u m hk hb hu => a.keep k cs u m hk hb (fun h => hu (hs u h))⟩
theorem StT.up (a : StT ts g w w') (hh : g ≤ h) : StT ts h w w' := ⟨a.size, fun k cs u m hk hb hu => a.keep k cs u m (Nat.le_trans hh hk) hb hu⟩
theorem StT.of_below {B : Nat} (ts : List TypeId) (g : Nat) (hb : Below B w w') (hB : w.heap.size ≤ B) : StT ts g w w' :=
  ⟨hb.size, fun k cs u m _ hk _ => by
    have hl : k < w.heap.size := (Array.getElem?_eq_some_iff.1 hk).1
    rw [hb.block k (by omega)]; exact hk⟩
theorem StT.drewN (ts : List TypeId) (g : Nat) (w : World) (n : Nat) : StT ts g w (w.drewN n) := ⟨Nat.le_refl _, fun _ _ _ _ _ h _ => h⟩
theorem StT.of_grown {k : Nat} {t : TypeId} {cs0 : Array Value} {m0 : Nat × Nat} (hg : w.grownBy w' (some k)) (hk : w.heap[k]? = some (.cells cs0 t m0)) (ht : t ∈ ts) : StT ts g w w' :=
  ⟨hg.size, fun b cs u m _ hb hu => by
    have hl : b < w.heap.size := (Array.getElem?_eq_some_iff.1 hb).1
    rw [hg.block b hl (fun e => by
      injection e with e
      subst e
      rw [hk] at hb
      injection hb with hb
      injection hb with _ hb2 _
      subst hb2
      exact hu ht)]
    exact hb⟩
theorem StT.of_grown_none (hg : w.grownBy w' none) : StT ts g w w' :=
  ⟨hg.size, fun b cs u m _ hb hu => by
    have hl : b < w.heap.size := (Array.getElem?_eq_some_iff.1 hb).1
    rw [hg.block b hl (by simp)]
    exact hb⟩
theorem Bk.st {b : Nat} {t : TypeId} {cs : Array Value} (hb : Bk w b t cs) (hs : StT ts g w w') (hg : g ≤ b) (ht : t ∉ ts) : Bk w' b t cs := hs.keep b cs t (0, 0) hg hb ht
variable {base : Nat} {v : Value}
theorem OwnT.st {l : List UInt8} (ho : OwnT w base v l) (hs : StT ts g w w') (hg : g ≤ base) (ht : 5 ∉ ts) : OwnT w' base v l := by
  rcases ho with hn | ⟨b, cap, cur, fz, rfl, hb, hgg, rest⟩
  · exact .inl hn
  · exact .inr ⟨b, cap, cur, fz, rfl, hb, hs.keep b _ _ _ (by omega) hgg ht, rest⟩
theorem OwnT.lower {b' : Nat} {l : List UInt8} (ho : OwnT w base v l) (hb : b' ≤ base) : OwnT w b' v l := by
  rcases ho with hn | ⟨b, cap, cur, fz, rfl, hb2, rest⟩
  · exact .inl hn
  · exact .inr ⟨b, cap, cur, fz, rfl, by omega, rest⟩
variable {α : Type} {N : Enc α} {te : TypeId} {l : List α}
theorem OwnG.st (ho : OwnG N te w base v l) (hs : StT ts g w w') (hg : g ≤ base) (ht : te ∉ ts) : OwnG N te w' base v l := by
  refine ⟨ho.1, ?_⟩
  rcases ho.2 with hn | ⟨b, cap, cur, rfl, hb, hgg, rest⟩
  · exact .inl hn
  · exact .inr ⟨b, cap, cur, rfl, hb, hs.keep b _ _ _ (by omega) hgg ht, rest⟩
/-- What an append onto an own row leaves as it was. -/
theorem OwnG.grownSt (ho : OwnG N te w base v l) (hg : w.grownBy w' v.ownBlock) (ht : te ∈ ts) : StT ts g w w' := by
  rcases ho.2 with ⟨hn, _⟩ | ⟨b, cap, cur, rfl, hb, hgg, rest⟩
  · subst hn
    exact .of_grown_none hg
  · exact .of_grown hg hgg ht
/-- append onto a slice with no room: it is new, or nothing was appended. -/
theorem run_app0G {tsl : TypeId} {by_ : Nat} (hts : Tryd.prog.underlying tsl = some (.slice te)) (hinfo : (Tryd.prog.info? te).map (fun i => (i.size, i.bytes, i.zero.map (·.cells.size))) = some (N.k, by_, some N.k))
    (b0 : Nat) (h0 : OwnG N te w base (.slice (some ⟨b0, 0, none⟩) 0 0) []) {B : Nat} {A : Option Addr} {m : List α} (hr : RdG N w B A m) (n c : Nat) (hn : m.length = n) (ty : TypeId)
    (hsz : n * by_ ≤ 140737488355328) (hby0 : 0 < by_) (hbase : base ≤ w.heap.size) :
    ∃ A' c' w', (Builtin.append_ #[tsl, tsl] ty #[.slice (some ⟨b0, 0, none⟩) 0 0, .slice A n c]).run Tryd.prog w = .ok (.slice A' n c') w' ∧ OwnG N te w' base (.slice A' n c') m ∧ Below w.heap.size w w' := by
  subst hn
  obtain ⟨i, hi, hii⟩ := Option.map_eq_some_iff.1 hinfo
  simp only [Prod.mk.injEq] at hii
  obtain ⟨hsize, hby, hzz⟩ := hii
  obtain ⟨z, hz, hzs⟩ := Option.map_eq_some_iff.1 hzz
  have hk := N.pos
  rcases Nat.eq_zero_or_pos m.length with hm0 | hm0
  · have hm : m = [] := List.eq_nil_of_length_eq_zero hm0
    subst hm
    refine ⟨some ⟨b0, 0, none⟩, 0, w, ?_, h0, Below.refl _ _⟩
    cases A with
    | none => simp [Builtin.append_, run_underlying hts, sizeOf, typeInfo, hi, Builtin.lenOf, Builtin.firstCells, storeCells]
    | some ad => simp [Builtin.append_, run_underlying hts, sizeOf, typeInfo, hi, Builtin.lenOf, Builtin.firstCells, storeCells, loadCells, loadCellsFrom]
  · obtain ⟨b, off, rfl, _, _⟩ := id hr hm0
    have hle : m.length ≤ m.length * by_ := Nat.le_mul_of_pos_right _ hby0
    have hl : (rowG N m).length = m.length * i.size := by rw [hsize]; exact rowG_len N m
    have hr2 := run_append_grow (P := Tryd.prog) w tsl ty te i z hts hi hz ⟨b0, 0, none⟩ 0 0 [] (by simp) (by intro j v hj; simp at hj) ⟨b, off, none⟩ m.length c (rowG N m) hl (news_of_rdG hr)
      (by omega) (by omega) (growslice_fits (by omega) (by rw [hby, Nat.zero_add]; omega))
    simp only [Nat.zero_add] at hr2
    have hge := grownCap_ge w m.length 0 te
    have hcm : grownCap w m.length 0 te ≤ maxLen := grownCap_le_maxLen w m.length 0 te (by unfold maxLen; omega)
    refine ⟨_, _, _, hr2, ⟨rowG_len N m, .inr ⟨w.heap.size, _, _, rfl, hbase, heap_alloc_new w.drew _, hge, hcm, ?_, ?_⟩⟩, ((Below.refl _ _).drew).alloc (by simp) _⟩
    · simp only [Array.size_append, List.size_toArray, size_zeroCells, hzs, rowG_len, List.length_nil, Nat.zero_add]
      rw [← Nat.add_mul]
      congr 1
      omega
    · simp only [Array.toList_append, List.nil_append]
      rw [← rowG_len N m]
      exact List.take_left
theorem step_app0G {tsl : TypeId} {by_ : Nat} {ops : Array Oper} {o : Oper} {a : Act} {K : Act → World → Prop} {Q : Exit → Act → World → Prop} {E : Prop} (hw : Region.wanted o (yielded ops a.tmps) = true) (s x : Operand)
    (ho : o.op = .call { callee := .builtin .append, args := #[s, x], argTypes := #[tsl, tsl] })
    (hts : Tryd.prog.underlying tsl = some (.slice te)) (hinfo : (Tryd.prog.info? te).map (fun i => (i.size, i.bytes, i.zero.map (·.cells.size))) = some (N.k, by_, some N.k))
    (b0 : Nat) (h0 : OwnG N te w base (.slice (some ⟨b0, 0, none⟩) 0 0) []) (hs : a.eval s = .slice (some ⟨b0, 0, none⟩) 0 0) {B : Nat} {A : Option Addr} {m : List α} (n c : Nat) (hx : a.eval x = .slice A n c) (hr : RdG N w B A m) (hn : m.length = n)
    (hsz : n * by_ ≤ 140737488355328) (hby0 : 0 < by_) (hbase : base ≤ w.heap.size)
    (hK : ∀ A' c' w', OwnG N te w' base (.slice A' n c') m → Below w.heap.size w w' → K (a.put o.dst (.slice A' n c')) w') : if Region.wanted o (yielded ops a.tmps) = true then Oper.wp Tryd.prog o a w K Q else E := by
  rw [if_pos hw]
  obtain ⟨A', c', w', hrun, h1, h2⟩ := run_app0G hts hinfo b0 h0 hr n c hn o.type hsz hby0 hbase
  unfold Oper.wp execOp
  simp only [ho, resolve, invoke, builtin, Sem.run_bind, Sem.run_pure, Result.andThen_ok, List.map_toArray, List.map_cons, List.map_nil, hs, hx, hrun]
  exact hK A' c' w' h1 h2
/-- '[]byte(s)' in a drawn region. -/
theorem step_bytesT {ops : Array Oper} {o : Oper} {a : Act} {K : Act → World → Prop} {Q : Exit → Act → World → Prop} {E : Prop} (hw : Region.wanted o (yielded ops a.tmps) = true) (x : Operand)
    (ho : o.op = .convert 9 39 x) (s : List UInt8) (hx : a.eval x = .string (strOf s)) (hb : base ≤ w.heap.size) (hm : s.length ≤ maxLen)
    (hK : ∀ A c w', OwnT w' base (.slice A s.length c) s → Below w.heap.size w w' → K (a.put o.dst (.slice A s.length c)) w') : if Region.wanted o (yielded ops a.tmps) = true then Oper.wp Tryd.prog o a w K Q else E := by
  obtain ⟨h1, h2⟩ := OwnT.of_string w base s hb hm
  refine step_run hw ?_ (hK _ _ _ h2 (((Below.refl _ _).drew).alloc (by simp) _))
  unfold execOp
  simp only [ho, hx, Sem.run_bind, Sem.run_pure, Result.andThen_ok, h1]
end
/-- A box that is laid once, and stored once, behind all others. -/
structure BxJ (n1 n2 s : Nat) (t : TypeId) (z : Array Value) (B : Nat) (w0 : World) (V : Nat → World → Prop) (D : Nat → Bool) (a : Act) (W : World) : Prop where
  all_ : D n2 = true → ∀ j, j < n2 → D j = true
  bel : Below B w0 W
  siz : B ≤ W.heap.size
  fresh : D n1 = true → D n2 = false → ∃ b, a.tmps.getD s undef = .pointer (some ⟨b, 0, none⟩) ∧ B ≤ b ∧ Bk W b t z
  done : D n2 = true → ∃ b, a.tmps.getD s undef = .pointer (some ⟨b, 0, none⟩) ∧ B ≤ b ∧ V b W
section
variable {n1 n2 s : Nat} {t : TypeId} {z : Array Value} {B : Nat} {w0 : World} {V : Nat → World → Prop} {D : Nat → Bool} {a : Act} {W W' : World}
theorem BxJ.start (hb : Below B w0 W) (hs : B ≤ W.heap.size) : BxJ n1 n2 s t z B w0 V (fun _ => false) a W := ⟨fun h => (by cases h), hb, hs, fun h => (by cases h), fun h => (by cases h)⟩
/-- An operation that makes memory at most. -/
theorem BxJ.same (h : BxJ n1 n2 s t z B w0 V D a W) (i : Nat) (hi : i < n2) (h1 : n1 ≠ i) (hL : D i = false) {s2 : Nat} (hs : s2 ≠ s) (v : Value) (hb : Below W.heap.size W W') : BxJ n1 n2 s t z B w0 V (fun j => decide (j = i) || D j) (a.put (some s2) v) W' := by
  have hn2 : D n2 = false := by
    cases e : D n2 with
    | false => rfl
    | true => rw [h.all_ e i hi] at hL; cases hL
  have e2 : (decide (n2 = i) || D n2) = false := by rw [hn2, decide_eq_false (by omega)]; rfl
  have hp : (a.put (some s2) v).tmps.getD s undef = a.tmps.getD s undef := by simp [Act.put, Array.getElem?_setIfInBounds, hs]
  refine ⟨fun h => (by rw [e2] at h; cases h), h.bel.trans (hb.mono h.siz), Nat.le_trans h.siz hb.size, fun h3 _ => ?_, fun h => (by rw [e2] at h; cases h)⟩
  rw [hp]
  obtain ⟨b, x1, x2, x3⟩ := h.fresh (by simpa [h1] using h3) hn2
  exact ⟨b, x1, x2, x3.below hb x3.lt⟩
theorem BxJ.alloc (h : BxJ n1 n2 s t z B w0 V D a W) (hi : n1 < n2) (hL : D n1 = false) (hs : s < a.tmps.size) : BxJ n1 n2 s t z B w0 V (fun j => decide (j = n1) || D j) (a.put (some s) (.pointer (some ⟨W.heap.size, 0, none⟩))) (W.alloc (.cells z t)) := by
  have hn2 : D n2 = false := by
    cases e : D n2 with
    | false => rfl
    | true => rw [h.all_ e n1 hi] at hL; cases hL
  have e2 : (decide (n2 = n1) || D n2) = false := by rw [hn2, decide_eq_false (by omega)]; rfl
  have hp : (a.put (some s) (.pointer (some ⟨W.heap.size, 0, none⟩))).tmps.getD s undef = .pointer (some ⟨W.heap.size, 0, none⟩) := by simp [Act.put, Array.getElem?_setIfInBounds, hs]
  have hb : Below W.heap.size W (W.alloc (.cells z t)) := (Below.refl _ _).alloc (Nat.le_refl _) _
  exact ⟨fun h => (by rw [e2] at h; cases h), h.bel.trans (hb.mono h.siz), Nat.le_trans h.siz hb.size, fun _ _ => ⟨_, hp, h.siz, Bk.new W _ _⟩, fun h => (by rw [e2] at h; cases h)⟩
theorem BxJ.not2 (h : BxJ n1 n2 s t z B w0 V D a W) {i : Nat} (hi : i < n2) (hL : D i = false) : D n2 = false := by
  cases e : D n2 with
  | false => rfl
  | true => rw [h.all_ e i hi] at hL; cases hL
theorem BxJ.store {b : Nat} (h : BxJ n1 n2 s t z B w0 V D a W) (hd : ∀ j, j < n2 → D j = true) (e : a.tmps.getD s undef = .pointer (some ⟨b, 0, none⟩)) (hB : B ≤ b) (hb : Below B W W') (hV : V b W') (v : Value) : BxJ n1 n2 s t z B w0 V (fun j => decide (j = n2) || D j) (a.put none v) W' :=
  ⟨fun _ j hj => by simp [hd j hj], h.bel.trans hb, Nat.le_trans h.siz hb.size, fun _ h4 => (by simp at h4), fun _ => ⟨b, e, hB, hV⟩⟩
end
/-- An append, then a store of what it gave, in a drawn region; L: who waits for whom. -/
structure AcJ (n1 n2 s1 : Nat) (L : List (Nat × Nat)) (S0 S1 S2 : World → Prop) (V : Value → World → Prop) (D : Nat → Bool) (a : Act) (W : World) : Prop where
  imp : ∀ p ∈ L, D p.1 = true → D p.2 = true
  ord : D n2 = true → D n1 = true
  s0 : D n1 = false → S0 W
  s1 : D n1 = true → D n2 = false → S1 W ∧ V (a.tmps.getD s1 undef) W
  s2 : D n2 = true → S2 W
section
variable {n1 n2 s1 : Nat} {L : List (Nat × Nat)} {S0 S1 S2 : World → Prop} {V : Value → World → Prop} {D : Nat → Bool} {a : Act} {W W' : World}
theorem AcJ.start (h : S0 W) : AcJ n1 n2 s1 L S0 S1 S2 V (fun _ => false) a W := ⟨fun _ _ h => (by cases h), fun h => (by cases h), fun _ => h, fun h => (by cases h), fun h => (by cases h)⟩
theorem AcJ.no (h : AcJ n1 n2 s1 L S0 S1 S2 V D a W) (x y : Nat) (hp : (x, y) ∈ L) (hy : D y = false) : D x = false := by
  cases e : D x with
  | false => rfl
  | true =>
    have h2 : D y = true := h.imp _ hp e
    rw [hy] at h2; cases h2
theorem AcJ.any (h : AcJ n1 n2 s1 L S0 S1 S2 V D a W) {P : World → Prop} (p0 : S0 W → P W) (p1 : S1 W → P W) (p2 : S2 W → P W) : P W := by
  cases e1 : D n1 with
  | false => exact p0 (h.s0 e1)
  | true =>
    cases e2 : D n2 with
    | false => exact p1 (h.s1 e1 e2).1
    | true => exact p2 (h.s2 e2)
theorem AcJ.imp_ (h : AcJ n1 n2 s1 L S0 S1 S2 V D a W) (i : Nat) (hi : ∀ p ∈ L, p.1 = i → D p.2 = true) : ∀ p ∈ L, (decide (p.1 = i) || D p.1) = true → (decide (p.2 = i) || D p.2) = true := fun p hp e => by
  rw [Bool.or_eq_true] at e ⊢
  rcases e with e | e
  · exact .inr (hi p hp (of_decide_eq_true e))
  · exact .inr (h.imp p hp e)
/-- An operation that leaves memory as it is. -/
theorem AcJ.same (h : AcJ n1 n2 s1 L S0 S1 S2 V D a W) (i : Nat) (h1 : n1 ≠ i) (h2 : n2 ≠ i) (hi : ∀ p ∈ L, p.1 = i → D p.2 = true) {s : Nat} (hs : s ≠ s1) (v : Value) : AcJ n1 n2 s1 L S0 S1 S2 V (fun j => decide (j = i) || D j) (a.put (some s) v) W := by
  have hp : (a.put (some s) v).tmps.getD s1 undef = a.tmps.getD s1 undef := by simp [Act.put, Array.getElem?_setIfInBounds, hs]
  refine ⟨h.imp_ i hi, fun e => ?_, fun e => h.s0 (by simpa [h1] using e), fun e f => ?_, fun e => h.s2 (by simpa [h2] using e)⟩
  · have := h.ord (by simpa [h2] using e)
    simp [this]
  · rw [hp]
    exact h.s1 (by simpa [h1] using e) (by simpa [h2] using f)
/-- One that makes memory, ahead of the append. -/
theorem AcJ.low (h : AcJ n1 n2 s1 L S0 S1 S2 V D a W) (i : Nat) (hn : D n1 = false) (h1 : n1 ≠ i) (h2 : n2 ≠ i) (hi : ∀ p ∈ L, p.1 = i → D p.2 = true) (hW : S0 W → S0 W') (a' : Act) : AcJ n1 n2 s1 L S0 S1 S2 V (fun j => decide (j = i) || D j) a' W' := by
  have hn2 : D n2 = false := by
    cases e : D n2 with
    | false => rfl
    | true => rw [h.ord e] at hn; cases hn
  have e1 : (decide (n1 = i) || D n1) = false := by rw [hn, decide_eq_false h1]; rfl
  have e2 : (decide (n2 = i) || D n2) = false := by rw [hn2, decide_eq_false h2]; rfl
  exact ⟨h.imp_ i hi, fun e => (by rw [e2] at e; cases e), fun _ => hW (h.s0 hn), fun e => (by rw [e1] at e; cases e), fun e => (by rw [e2] at e; cases e)⟩
theorem AcJ.app (h : AcJ n1 n2 s1 L S0 S1 S2 V D a W) (hn : D n1 = false) (h12 : n2 ≠ n1) (hi : ∀ p ∈ L, p.1 = n1 → D p.2 = true) (hs : s1 < a.tmps.size) {v : Value} (hS : S1 W') (hV : V v W') : AcJ n1 n2 s1 L S0 S1 S2 V (fun j => decide (j = n1) || D j) (a.put (some s1) v) W' := by
  have hn2 : D n2 = false := by
    cases e : D n2 with
    | false => rfl
    | true => rw [h.ord e] at hn; cases hn
  have e2 : (decide (n2 = n1) || D n2) = false := by rw [hn2, decide_eq_false h12]; rfl
  have hp : (a.put (some s1) v).tmps.getD s1 undef = v := by simp [Act.put, Array.getElem?_setIfInBounds, hs]
  exact ⟨h.imp_ n1 hi, fun e => (by rw [e2] at e; cases e), fun e => (by simp at e), fun _ _ => ⟨hS, by rw [hp]; exact hV⟩, fun e => (by rw [e2] at e; cases e)⟩
theorem AcJ.store (h : AcJ n1 n2 s1 L S0 S1 S2 V D a W) (hn : D n1 = true) (hi : ∀ p ∈ L, p.1 = n2 → D p.2 = true) (hS : S2 W') (a' : Act) : AcJ n1 n2 s1 L S0 S1 S2 V (fun j => decide (j = n2) || D j) a' W' :=
  ⟨h.imp_ n2 hi, fun _ => by simp [hn], fun e => (by rw [hn] at e; simp at e), fun _ e => (by simp at e), fun _ => hS⟩
end
end Go.Proofs.YtegfnlnbhhmkjaaDoor

namespace Go.Proofs.YtegfnlnbhhmkjaaDoor
set_option maxRecDepth 100000
open Go.RowKit Go.Lib
set_option linter.unusedVariables false

theorem zero_cellsW (n : Nat) : Builtin.zeroCells (Value.bool false).cells n = rowW (List.replicate n false) := by
  apply Array.ext
  · simp [Builtin.zeroCells, rowW, Value.cells]
  · intro i h1 h2
    simp [Builtin.zeroCells, rowW, Value.cells, Nat.mod_one]
theorem oneW (l : List Bool) : ∀ u ∈ (rowW l).toList, u.oneCell' = true := fun u hu => by
  simp [rowW] at hu
  rcases hu with ⟨_, rfl⟩ | ⟨_, rfl⟩ <;> rfl
section
variable {w : World} {base : Nat} {v : Value} {l : List Bool}
theorem own_falses (w : World) (base n G : Nat) (l : List Bool) (hb : base ≤ w.heap.size) (hG1 : l.length + n ≤ G) (hG2 : G ≤ maxLen) :
    OwnW (w.alloc (.cells ((rowW l) ++ rowW (List.replicate n false) ++ rowW (List.replicate (G - (l.length + n)) false)) 4)) base (.slice (some ⟨w.heap.size, 0, none⟩) (l.length + n) G) (l ++ List.replicate n false) := by
  refine ⟨by simp [rowW], .inr ⟨w.heap.size, G, _, by simp, hb, heap_alloc_new w _, by simpa using hG1, hG2, ?_, ?_⟩⟩
  · simp [rowW]
    omega
  · have h : ((rowW l) ++ rowW (List.replicate n false) ++ rowW (List.replicate (G - (l.length + n)) false)).toList = (rowW (l ++ List.replicate n false)).toList ++ (rowW (List.replicate (G - (l.length + n)) false)).toList := by simp [rowW]
    rw [h, Nat.mul_one, List.take_left' (by simp [rowW])]
/-- append of n noughts onto an own slice. -/
theorem run_appB (h : OwnW w base v l) (n : Nat) (ty : TypeId) (hsz : l.length + n ≤ 140737488355328) (hbase : base ≤ w.heap.size) :
    ∃ v' w', (Builtin.append_ #[24, 3] ty #[v, .int .i64 (n : Int)]).run Tryd.prog w = .ok v' w' ∧ OwnW w' base v' (l ++ List.replicate n false) ∧ w.grownBy w' v.ownBlock ∧ (v'.ownBlock = v.ownBlock ∨ v'.ownBlock = some w.heap.size) := by
  obtain ⟨i, hi, hz, hsize, hby⟩ := info_parts infoW
  have hw : IntKind.i64.wrap (n : Int) = n := by rw [IntKind.wrap_i64]; omega
  have hneg : ¬ ((n : Int) < 0) := by omega
  have h48 : ¬ (281474976710656 < (n : Int) * ((1 : Nat) : Int)) := by omega
  by_cases h0 : n = 0
  · subst h0
    have hrun : (Builtin.append_ #[24, 3] ty #[v, .int .i64 ((0 : Nat) : Int)]).run Tryd.prog w = .ok v w := by
      have hw0 : IntKind.i64.wrap 0 = 0 := by rw [IntKind.wrap_i64]; omega
      rcases h.2 with ⟨hv, h0⟩ | ⟨g, cap, cur, hv, _, _, hnc, _⟩
      · subst hv
        simp [Builtin.append_, run_underlying Tryd.underlying24, run_underlying Tryd.underlying3, sizeOf, typeInfo, hi, asInt, asIntOf, hw0]
      · subst hv
        simp [Builtin.append_, run_underlying Tryd.underlying24, run_underlying Tryd.underlying3, sizeOf, typeInfo, hi, asInt, asIntOf, hw0, hnc, storeCells]
    exact ⟨v, w, hrun, by simpa using h, World.grownBy.refl w _, .inl rfl⟩
  · have hgrow : ∀ (b : Option Addr) (cap : Nat), cap < l.length + n → cap ≤ l.length + n → (Builtin.firstCells i.size l.length (.slice b l.length cap)).run Tryd.prog w.drew = .ok (rowW l).toList.toArray w.drew →
        ∃ v' w', (Builtin.append_ #[24, 3] ty #[.slice b l.length cap, .int .i64 (n : Int)]).run Tryd.prog w = .ok v' w' ∧ OwnW w' base v' (l ++ List.replicate n false) ∧ w.grownBy w' (Value.slice b l.length cap).ownBlock ∧ v'.ownBlock = some w.heap.size := fun b cap hlt hle hold => by
      have hr := run_append_grow_zeros w 24 3 ty 4 i (.bool false) .i64 .i64 Tryd.underlying24 Tryd.underlying3 hi hz b l.length cap (rowW l).toList hold n (by omega) (by omega) hlt (by omega) (by rw [hby]; omega) (growslice_fits (by omega) (by rw [hby]; omega))
      rw [zero_cellsW, zero_cellsW] at hr
      have hG1 := grownCap_ge w (l.length + n) cap 4
      have hG2 := grownCap_le_maxLen w (l.length + n) cap 4 (by unfold maxLen; omega)
      generalize grownCap w (l.length + n) cap 4 = G at *
      have ho := own_falses w.drew base n G l hbase hG1 hG2
      exact ⟨_, _, hr, by simpa using ho, (World.grownBy_alloc w.drew _ _ : World.grownBy w.drew _ _) |> fun hg => ⟨hg.os, hg.tape, hg.output, hg.size, hg.block⟩, rfl⟩
    rcases h.2 with ⟨rfl, hl0⟩ | ⟨g, cap, cur, rfl, hbg, hg, hnc, hcm, hcs, htake⟩
    · have hl : l = [] := List.eq_nil_of_length_eq_zero hl0
      subst hl
      obtain ⟨v', w', h1, h2, h3, h4⟩ := hgrow none 0 (by simp; omega) (by omega) (run_firstCells_none w.drew i.size 0 0 0)
      exact ⟨v', w', h1, h2, h3, .inr h4⟩
    · by_cases hfit : l.length + n ≤ cap
      · have hst := storeCells_mark Tryd.prog g l.length 4 (0, 0) (rowW (List.replicate n false)).toList 0 cur w hg (fun j _ => by omega) (by simp [rowW]; omega) (oneW _)
        refine ⟨.slice (some ⟨g, 0, none⟩) (l.length + n) cap, w.setRow g (cur.toList.take (l.length + 0) ++ (rowW (List.replicate n false)).toList ++ cur.toList.drop (l.length + 0 + (rowW (List.replicate n false)).toList.length)).toArray, ?_, ?_, ⟨rfl, rfl, rfl, by simp, fun k _ hk => setRow_other w g k _ (fun e => hk (by simp [e, Value.ownBlock]))⟩, .inl rfl⟩
        · have hadd : (⟨g, 0, none⟩ : Addr).add (l.length * i.size) = ⟨g, l.length, none⟩ := by rw [hsize, Nat.mul_one]; unfold Addr.add; split <;> simp_all
          have hn2 : n * i.size ≠ 0 := by rw [hsize]; omega
          simp [Builtin.append_, run_underlying Tryd.underlying24, run_underlying Tryd.underlying3, sizeOf, typeInfo, zeroValue, hi, hz, asInt, asIntOf, hw, hneg, hby, hfit, hn2, hadd]
          rw [if_neg (by omega), zero_cellsW, hst]
          simp
        · refine ⟨by simp [rowW], .inr ⟨g, cap, _, by simp, hbg, setRow_heap w g cur _ _ _ hg, by simpa using hfit, hcm, ?_, ?_⟩⟩
          · simp [rowW]
            omega
          · rw [Nat.mul_one] at htake
            have h2 : (cur.toList.take (l.length + 0) ++ (rowW (List.replicate n false)).toList ++ cur.toList.drop (l.length + 0 + (rowW (List.replicate n false)).toList.length)).toArray.toList = (rowW (l ++ List.replicate n false)).toList ++ cur.toList.drop (l.length + 0 + (rowW (List.replicate n false)).toList.length) := by
              rw [Nat.add_zero, htake]
              simp [rowW]
            rw [h2, Nat.mul_one, List.take_left' (by simp [rowW])]
      · obtain ⟨v', w', h1, h2, h3, h4⟩ := hgrow (some ⟨g, 0, none⟩) cap (by omega) (by omega) (run_firstCells_some (P := Tryd.prog) (w := w.drew) i.size l.length ⟨g, 0, none⟩ l.length cap (rowW l).toList (by simp [rowW, hsize]) (fun j u hu => World.ownsRow.cells (w := w.drew) h.drew rfl j u hu))
        exact ⟨v', w', h1, h2, h3, .inr h4⟩
theorem wpList_appB {ops : Array Oper} {rest : List Oper} {o : Oper} {a : Act} {Q : Exit → Act → World → Prop} (hgd : o.guard = none) (s x : Operand)
    (ho : o.op = .call { callee := .builtin .append, args := #[s, x], argTypes := #[24, 3] })
    (h : OwnW w base v l) (hs : a.eval s = v) (n : Nat) (hx : a.eval x = .int .i64 (n : Int))
    (hsz : l.length + n ≤ 140737488355328) (hbase : base ≤ w.heap.size)
    (hK : ∀ A' c' w', OwnW w' base (.slice A' (l.length + n) c') (l ++ List.replicate n false) → w.grownBy w' v.ownBlock → ((Value.slice A' (l.length + n) c').ownBlock = v.ownBlock ∨ (Value.slice A' (l.length + n) c').ownBlock = some w.heap.size) → wpList Tryd.prog ops Q rest (a.put o.dst (.slice A' (l.length + n) c')) w') : wpList Tryd.prog ops Q (o :: rest) a w := by
  obtain ⟨v', w', hrun, h2, h3, h4⟩ := run_appB h n o.type hsz hbase
  obtain ⟨A', c', hv, _⟩ := h2.form
  rw [List.length_append, List.length_replicate] at hv
  subst hv
  exact wpList_append_run w hgd s x _ _ ho _ _ hs hx _ w' hrun (hK A' c' w' h2 h3 h4)
end
end Go.Proofs.YtegfnlnbhhmkjaaDoor

namespace Go.Proofs.YtegfnlnbhhmkjaaDoor
set_option maxRecDepth 100000
open Go.ChangeShapes Go.WideShapes Go.ChangeAt Go.RowKit
set_option linter.unusedVariables false
set_option linter.unusedSimpArgs false

theorem hidts_ {p : Prop} (h : p) : Hid p := h
theorem parts_1s {W : World} {h n1 c1 : Nat} {A1 : Option Addr} {X : List UInt8} (hb : Bk W h 39 #[.slice A1 n1 c1]) (hn1 : X.length = n1) (hX : Rd W W.heap.size A1 X) (hc1 : n1 ≤ c1) (hm1 : c1 ≤ 9223372036854775807) : Parts W W.heap.size (some ⟨h, 0, none⟩) [X] := by
  subst hn1
  have h0 := hb.cell 0
  simp only [List.getElem?_toArray, List.getElem?_cons_zero] at h0
  refine fun _ => ⟨h, 0, rfl, hb.lt, fun j hj => ?_⟩
  have hj3 : j < 1 := hj
  obtain rfl : j = 0 := by omega
  exact ⟨_, _, h0, hX, hc1, hm1⟩
theorem sha_abc3 : ((sha [97, 98, 99]).getD 0 0).toNat = 186 ∧ ((sha [97, 98, 99]).getD 1 0).toNat = 120 ∧ ((sha [97, 98, 99]).getD 31 0).toNat = 173 := by decide +kernel

set_option maxRecDepth 100000 in
set_option maxHeartbeats 2000000 in
theorem stands_any (w : World) (ht : Tab w) (hg1 : 0 < w.heap.size) : Calls Tryd.prog 6 #[] w fun e w' => e = .returned (.bool true) ∧ Below w.heap.size w w' := by
  have hz := z32
  have k1 := Lib.run_convert_bytes_const (P := Tryd.prog) w 39 5 #[.int .u8 97, .int .u8 98, .int .u8 99] 3 3 Tryd.underlying39 Tryd.underlying5
  obtain ⟨w1, hw1⟩ : ∃ w1, w.alloc (.cells #[.int .u8 97, .int .u8 98, .int .u8 99] 5 (3, 4)) = w1 := ⟨_, rfl⟩
  have B1 : Below w.heap.size w w1 := by rw [← hw1]; exact (Below.refl _ _).alloc (Nat.le_refl _) _
  have R1 : Rd w1 (w.heap.size + 1) (some ⟨w.heap.size, 0, none⟩) [97, 98, 99] := by
    have h := rd_mark w [97, 98, 99] (3, 4)
    rw [show rowOf [97, 98, 99] = #[.int .u8 97, .int .u8 98, .int .u8 99] from rfl, hw1] at h
    exact h
  have s1 : w1.heap.size = w.heap.size + 1 := by rw [← hw1]; simp
  obtain ⟨w2, hw2⟩ : ∃ w2, w1.alloc (.cells #[.slice (some ⟨w.heap.size, 0, none⟩) 3 3] 39) = w2 := ⟨_, rfl⟩
  have B2 : Below w1.heap.size w1 w2 := by rw [← hw2]; exact (Below.refl _ _).alloc (Nat.le_refl _) _
  have K2 : Bk w2 (w.heap.size + 1) 39 #[.slice (some ⟨w.heap.size, 0, none⟩) 3 3] := by rw [← s1, ← hw2]; exact Bk.new w1 _ _
  have X2 := hidts_ (B1.trans (B2.mono (by omega)))
  have cs := sum_any (some ⟨w.heap.size + 1, 0, none⟩) 1 1 [[97, 98, 99]] w2 rfl (parts_1s K2 rfl ((R1.below (B2.mono (by omega))).more (by have := B2.size; omega)) (Nat.le_refl _) (by omega)) (by omega) (by simp) (fun t h => (X2.out.cell (p := ⟨_, t, none⟩) hg1).trans (ht t h)) (Nat.lt_of_lt_of_le hg1 X2.out.size)
  rw [show ([[97, 98, 99]] : List (List UInt8)).flatten = [97, 98, 99] from rfl] at cs
  have LD := hidts_ (sha_len [97, 98, 99])
  obtain ⟨d0, d1, d31⟩ := sha_abc3
  have D0 := hidts_ d0
  have D1 := hidts_ d1
  have D31 := hidts_ d31
  clear d0 d1 d31
  generalize sha [97, 98, 99] = dg at *
  have I := hidts_ (show (Tryd.prog.info? 22).map (·.size) = some (rowOf dg).size by rw [rowOf_size, LD.out]; exact i32_)
  have Q := hidts_ (show (rowOf (zbytes 32)).size = (rowOf dg).size by rw [rowOf_size, rowOf_size, LD.out, zbytes_len])
  clear ht B1 R1 B2 K2
  go_enter Tryd.func6, Tryd.ntmps6
  go_wp2_with (first
    | (go_at_call 14; ((with_reducible refine cs.mono ?_); clear cs; rintro e w5 ⟨rfl, hb⟩; have X5 := hidts_ (X2.out.trans (hb.mono X2.out.size)); clear hb))
    | (refine wpList_put_row rfl 22 _ _ rfl w5.heap.size (rowOf dg) rfl rfl 22 (rowOf (zbytes 32)) (Bk.new w5 _ _) I.out Q.out (bytes_one _) ?_; intro w6 k6 g6 s6; have c0 := (k6.cell 0).trans (rowOf_at dg 0 (by rw [LD.out]; omega)); have c1 := (k6.cell 1).trans (rowOf_at dg 1 (by rw [LD.out]; omega)); have c31 := (k6.cell 31).trans (rowOf_at dg 31 (by rw [LD.out]; omega)); rw [D0.out] at c0; rw [D1.out] at c1; rw [D31.out] at c31; have X6 := hidts_ (X5.out.trans ((((Below.refl w5.heap.size w5).alloc (Nat.le_refl _) (.cells (rowOf (zbytes 32)) 22)).grown g6 (by simp) (fun k hk => by injection hk with hk; omega)).mono X5.out.size)); clear k6 g6 s6))
  go_ret
  exact ⟨rfl, X6.out⟩
end Go.Proofs.YtegfnlnbhhmkjaaDoor

namespace Go.Proofs.YtegfnlnbhhmkjaaDoor
set_option maxRecDepth 100000
set_option linter.unusedVariables false
set_option linter.unusedSimpArgs false

theorem rdMg_rest {m : MgV} (h : MgOk m) (hk : K32 m) (r : List UInt8) : rdMg (mgB m ++ r) = (strip m, r, 0) := by
  obtain ⟨⟨a1, a2⟩, ⟨b1, b2⟩, ⟨c1, c2⟩, hb⟩ := h
  unfold mgB
  simp only [List.append_assoc]
  rw [rdMg_of (small_put (by omega) a2 (by omega) _) (small_put b1 b2 (by omega) _) (num_put c1 c2 (by omega) _)]
  exact rdBody_put hb hk r
theorem more_none {m : MgV} (h : MgOk m) (hk : K32 m) (b : UInt8) : endS (rdMg (mgB m ++ [b])).2.1 (rdMg (mgB m ++ [b])).2.2 ≠ 0 := by
  rw [rdMg_rest h hk]
  simp [endS]
theorem short_none {m : MgV} (h : MgOk m) (hk : K32 m) (n : Nat) (hn : n < (mgB m).length) : endS (rdMg ((mgB m).take n)).2.1 (rdMg ((mgB m).take n)).2.2 ≠ 0 := by
  intro he
  obtain ⟨m', h', hk', e⟩ := (rdMg_yes _).1 he
  have e1 : mgB m = mgB m' ++ (mgB m).drop n := by rw [← e, List.take_append_drop]
  have r1 := rdMg_rest h hk []
  rw [List.append_nil, e1, rdMg_rest h' hk'] at r1
  have e2 := congrArg (fun x : MgV × List UInt8 × Int => x.2.1.length) r1
  simp only [List.length_drop, List.length_nil] at e2
  omega
end Go.Proofs.YtegfnlnbhhmkjaaDoor

namespace Go.Proofs.YtegfnlnbhhmkjaaDoor
set_option maxRecDepth 100000
set_option linter.unusedVariables false
set_option linter.unusedSimpArgs false

theorem stAll_d {up : Nat → Bool} {ws : List Nat} (n : Nat) : ∀ k, k ≤ ws.length → ∀ q ∈ (stAll up ws n k).1, q.r ∈ ws
  | 0, _ => fun q h => by simp [stAll_zero] at h
  | k + 1, hk => by
    have ih := stAll_d (up := up) (ws := ws) n k (by omega)
    have hlt : k < ws.length := by omega
    have ht : ws.take (k + 1) = ws.take k ++ [ws[k]] := List.take_succ_eq_append_getElem hlt
    have hx := List.getElem_mem hlt
    rw [stAll_succ ht]
    generalize ws[k] = x at *
    generalize stAll up ws n k = st at *
    cases hu : up x with
    | true =>
      rw [step_up hu]
      intro q hq
      rcases List.mem_append.1 hq with h | h
      · exact ih q h
      · rw [List.mem_singleton.1 h]; exact hx
    | false =>
      cases hd : downs up st.2 with
      | nil => rw [step_none hu hd]; exact ih
      | cons s sp =>
        rw [step_some hu hd]
        intro q hq
        rcases List.mem_append.1 hq with h | h
        · exact ih q h
        · rw [List.mem_singleton.1 h]; exact hx
/-- The i-th message. -/
def rtV (K : List UInt8) (i d : Nat) : MgV := ⟨5, 5, (i : Int), 0, (d : Int), 0, ⟨K, []⟩, [], [], []⟩
theorem rtV_ok (K : List UInt8) (i d : Nat) (hi : i ≤ 1000) (hd : d ≤ 7) : MgOk (rtV K i d) := by
  refine ⟨⟨show (1 : Int) ≤ 5 by decide, show (5 : Int) ≤ 7 by decide⟩, ⟨show (0 : Int) ≤ 5 by decide, show (5 : Int) ≤ 8 by decide⟩, ⟨?_, ?_⟩, ?_⟩
  · show (0 : Int) ≤ (i : Int); omega
  · show (i : Int) ≤ 4611686018427387904; omega
  · exact ⟨⟨show (0 : Int) ≤ (d : Int) by omega, show (d : Int) ≤ 7 by omega⟩, Nat.zero_le _⟩
theorem rtV_k32 (K : List UInt8) (hK : K.length = 32) (i d : Nat) : K32 (rtV K i d) := ⟨hK, fun _ h => (by cases h), fun _ h => (by cases h)⟩
theorem rtV_strip (K : List UInt8) (i d : Nat) : strip (rtV K i d) = rtV K i d := rfl
theorem rtV_len (K : List UInt8) (hK : K.length = 32) (i d : Nat) (hi : i ≤ 1000) (hd : d ≤ 7) : (mgB (rtV K i d)).length = 47 := by
  have h1 : (smallL 5).length = 1 := rfl
  have h2 : (numL (i : Int)).length = 8 := by unfold numL; rw [if_neg (by omega), highB_len]
  have h3 : (smallL (d : Int)).length = 1 := by unfold smallL; rw [if_pos (by omega)]; rfl
  have h4 : (krB ⟨K, []⟩).length = 36 := by unfold krB bytB; rw [List.length_append, List.length_append, highB_len, hK]; rfl
  have e : mgB (rtV K i d) = smallL 5 ++ (smallL 5 ++ (numL (i : Int) ++ (smallL (d : Int) ++ krB ⟨K, []⟩))) := rfl
  rw [e]
  rw [List.length_append, List.length_append, List.length_append, List.length_append, h1, h2, h3, h4]
/-- What box k holds when i of them are sent. -/
def bxAt (mb : Nat → List UInt8) (ps : List PrV) (k : Nat) : Nat → List (List UInt8)
  | 0 => []
  | i + 1 => bxAt mb ps k i ++ (if (ps.getD i ⟨0, 0⟩).p = k then [mb i, [120]] else [])
def cntAt (ps : List PrV) (k : Nat) : Nat → Nat
  | 0 => 0
  | i + 1 => cntAt ps k i + (if (ps.getD i ⟨0, 0⟩).p = k then 1 else 0)
theorem bxAt_len (mb : Nat → List UInt8) (ps : List PrV) (k : Nat) : ∀ i, (bxAt mb ps k i).length = 2 * cntAt ps k i
  | 0 => rfl
  | i + 1 => by
    have ih := bxAt_len mb ps k i
    simp only [bxAt, cntAt, List.length_append, ih]
    split <;> simp <;> omega
theorem bxAt_mem (mb : Nat → List UInt8) (ps : List PrV) (k : Nat) : ∀ i, ∀ x ∈ bxAt mb ps k i, x = [120] ∨ ∃ j, j < i ∧ (ps.getD j ⟨0, 0⟩).p = k ∧ x = mb j
  | 0 => fun x h => by simp [bxAt] at h
  | i + 1 => fun x h => by
    simp only [bxAt] at h
    rcases List.mem_append.1 h with h | h
    · rcases bxAt_mem mb ps k i x h with h | ⟨j, h1, h2, h3⟩
      · exact .inl h
      · exact .inr ⟨j, by omega, h2, h3⟩
    · split at h
      · rename_i hp
        simp at h
        rcases h with rfl | rfl
        · exact .inr ⟨i, by omega, hp, rfl⟩
        · exact .inl rfl
      · simp at h
theorem cntAt_none {ps : List PrV} {k : Nat} : ∀ i, i ≤ ps.length → (∀ j, j < i → (ps.getD j ⟨0, 0⟩).p ≠ k) → cntAt ps k i = 0
  | 0, _, _ => rfl
  | i + 1, hi, h => by
    simp only [cntAt, cntAt_none i (by omega) (fun j hj => h j (by omega)), if_neg (h i (by omega))]
theorem cntAt_one {ps : List PrV} {k : Nat} (hn : (ps.map (·.p)).Nodup) : ∀ i, i ≤ ps.length → cntAt ps k i ≤ 1
  | 0, _ => Nat.zero_le _
  | i + 1, hi => by
    have ih := cntAt_one hn (k := k) i (by omega)
    simp only [cntAt]
    split
    · rename_i hp
      have h0 : cntAt ps k i = 0 := cntAt_none i (by omega) fun j hj he => by
        have e1 : (ps.map (·.p))[j]'(by rw [List.length_map]; omega) = (ps.map (·.p))[i]'(by rw [List.length_map]; omega) := by
          simp only [List.getElem_map]
          rw [List.getD_eq_getElem?_getD, List.getElem?_eq_getElem (by omega)] at he hp
          exact he.trans hp.symm
        have := (List.getElem_inj hn).1 e1
        omega
      omega
    · omega
/-- All boxes when i are sent. -/
structure BxL (mb : Nat → List UInt8) (ps : List PrV) (i : Nat) (L : List (List (List UInt8))) : Prop where
  len : L.length = 12
  box : ∀ k, k < 6 → L.getD (k * 2) [] = bxAt mb ps k i
  took : ∀ k, k < 6 → L.getD (k * 2 + 1) [] = []
theorem BxL.start (mb : Nat → List UInt8) (ps : List PrV) : BxL mb ps 0 (List.replicate 12 []) := by
  have h : ∀ j, j < 12 → (List.replicate 12 ([] : List (List UInt8))).getD j [] = [] := by decide
  exact ⟨rfl, fun k hk => h _ (by omega), fun k hk => h _ (by omega)⟩
theorem getD_memR {α : Type} {l : List α} {k : Nat} {d : α} (h : k < l.length) : l.getD k d ∈ l := by
  rw [List.getD_eq_getElem?_getD, List.getElem?_eq_getElem h]
  exact List.getElem_mem _
theorem getD_set_ne {α : Type} {L : List α} {i j : Nat} {x d : α} (h : i ≠ j) : (L.set i x).getD j d = L.getD j d := by
  simp [List.getD_eq_getElem?_getD, List.getElem?_set, h]
theorem getD_set_eq {α : Type} {L : List α} {i : Nat} {x d : α} (h : i < L.length) : (L.set i x).getD i d = x := by
  simp [List.getD_eq_getElem?_getD, List.getElem?_set, h]
theorem addL_eq {L : List (List (List UInt8))} {k : Nat} {m : List UInt8} (h : (L.getD (k * 2) []).length < 64) : addL L k m = L.set (k * 2) (L.getD (k * 2) [] ++ [m]) ∧ addE L k = 0 := by
  unfold addL addE
  rw [if_neg (by omega), if_neg (by omega)]
  exact ⟨rfl, rfl⟩
/-- Two are sent to the i-th one's box. -/
theorem BxL.send {mb : Nat → List UInt8} {ps : List PrV} {i : Nat} {L : List (List (List UInt8))} (h : BxL mb ps i L) (hp : (ps.getD i ⟨0, 0⟩).p < 5) (hc : cntAt ps (ps.getD i ⟨0, 0⟩).p i ≤ 8) :
    addE L (ps.getD i ⟨0, 0⟩).p = 0 ∧ addE (addL L (ps.getD i ⟨0, 0⟩).p (mb i)) (ps.getD i ⟨0, 0⟩).p = 0 ∧ BxL mb ps (i + 1) (addL (addL L (ps.getD i ⟨0, 0⟩).p (mb i)) (ps.getD i ⟨0, 0⟩).p [120]) := by
  obtain ⟨p, hpe⟩ : ∃ p, (ps.getD i ⟨0, 0⟩).p = p := ⟨_, rfl⟩
  rw [hpe] at hp hc ⊢
  have h1 : L.getD (p * 2) [] = bxAt mb ps p i := h.box p (by omega)
  have hl1 : (L.getD (p * 2) []).length < 64 := by rw [h1, bxAt_len]; omega
  obtain ⟨a1, a2⟩ := addL_eq (m := mb i) hl1
  have hlt : p * 2 < L.length := by rw [h.len]; omega
  have h2 : (addL L p (mb i)).getD (p * 2) [] = bxAt mb ps p i ++ [mb i] := by rw [a1, getD_set_eq hlt, h1]
  have hl2 : ((addL L p (mb i)).getD (p * 2) []).length < 64 := by rw [h2, List.length_append, bxAt_len]; simp; omega
  obtain ⟨b1, b2⟩ := addL_eq (m := [120]) hl2
  refine ⟨a2, b2, ?_, fun k hk => ?_, fun k hk => ?_⟩
  · rw [b1, List.length_set, a1, List.length_set, h.len]
  · by_cases e : k = p
    · subst e
      rw [b1, getD_set_eq (by rw [a1, List.length_set]; exact hlt), h2]
      simp only [bxAt, if_pos hpe]
      simp
    · rw [b1, getD_set_ne (by omega), a1, getD_set_ne (by omega), h.box k hk]
      simp only [bxAt, if_neg (fun h3 => e (by rw [← hpe, ← h3]) : ¬ (ps.getD i ⟨0, 0⟩).p = k)]
      simp
  · rw [b1, getD_set_ne (by omega), a1, getD_set_ne (by omega), h.took k hk]
/-- Box c is emptied: what is left of it. -/
structure TkL (mb : Nat → List UInt8) (ps : List PrV) (c : Nat) (L : List (List (List UInt8))) : Prop where
  len : L.length = 12
  box : ∀ k, c < k → k < 6 → L.getD (k * 2) [] = bxAt mb ps k ps.length
  took : ∀ k, c < k → k < 6 → L.getD (k * 2 + 1) [] = []
  cur : ∀ x ∈ L.getD (c * 2) [], x = [120] ∨ ∃ j, j < ps.length ∧ (ps.getD j ⟨0, 0⟩).p = c ∧ x = mb j
  few : (L.getD (c * 2) []).length + (L.getD (c * 2 + 1) []).length ≤ 100
/-- What is left when c boxes are done. -/
structure DnL (mb : Nat → List UInt8) (ps : List PrV) (c : Nat) (L : List (List (List UInt8))) : Prop where
  len : L.length = 12
  box : ∀ k, c ≤ k → k < 6 → L.getD (k * 2) [] = bxAt mb ps k ps.length
  took : ∀ k, c ≤ k → k < 6 → L.getD (k * 2 + 1) [] = []
theorem BxL.dn {mb : Nat → List UInt8} {ps : List PrV} {L : List (List (List UInt8))} (h : BxL mb ps ps.length L) : DnL mb ps 0 L := ⟨h.len, fun k _ hk => h.box k hk, fun k _ hk => h.took k hk⟩
theorem DnL.tk {mb : Nat → List UInt8} {ps : List PrV} {c : Nat} {L : List (List (List UInt8))} (h : DnL mb ps c L) (hc : c < 5) (h1 : cntAt ps c ps.length ≤ 1) : TkL mb ps c L := by
  refine ⟨h.len, fun k h1 h2 => h.box k (by omega) h2, fun k h1 h2 => h.took k (by omega) h2, fun x hx => ?_, ?_⟩
  · rw [h.box c (by omega) (by omega)] at hx
    exact bxAt_mem mb ps c ps.length x hx
  · rw [h.box c (by omega) (by omega), h.took c (by omega) (by omega), bxAt_len]
    simp only [List.length_nil]
    omega
theorem TkL.dn {mb : Nat → List UInt8} {ps : List PrV} {c : Nat} {L : List (List (List UInt8))} (h : TkL mb ps c L) : DnL mb ps (c + 1) L := ⟨h.len, fun k h1 h2 => h.box k (by omega) h2, fun k h1 h2 => h.took k (by omega) h2⟩
theorem TkL.take {mb : Nat → List UInt8} {ps : List PrV} {c i : Nat} {L : List (List (List UInt8))} (h : TkL mb ps c L) (hc : c < 5) (hi : i < (L.getD (c * 2) []).length) :
    TkL mb ps c (takeL L c i) ∧ ((takeL L c i).getD (c * 2) []).length + 1 = (L.getD (c * 2) []).length := by
  have hlen := h.len
  have e0 : (takeL L c i).getD (c * 2) [] = (L.getD (c * 2) []).eraseIdx i := by
    unfold takeL
    rw [getD_set_ne (by omega), getD_set_eq (by omega)]
  have e1 : (takeL L c i).getD (c * 2 + 1) [] = L.getD (c * 2 + 1) [] ++ [(L.getD (c * 2) []).getD i []] := by
    unfold takeL
    rw [getD_set_eq (by rw [List.length_set]; omega)]
  have e2 : ((L.getD (c * 2) []).eraseIdx i).length + 1 = (L.getD (c * 2) []).length := by rw [List.length_eraseIdx, if_pos hi]; omega
  refine ⟨⟨?_, fun k h1 h2 => ?_, fun k h1 h2 => ?_, fun x hx => ?_, ?_⟩, by rw [e0]; exact e2⟩
  · unfold takeL
    rw [List.length_set, List.length_set, hlen]
  · unfold takeL
    rw [getD_set_ne (by omega), getD_set_ne (by omega)]
    exact h.box k h1 h2
  · unfold takeL
    rw [getD_set_ne (by omega), getD_set_ne (by omega)]
    exact h.took k h1 h2
  · rw [e0] at hx
    exact h.cur x (List.mem_of_mem_eraseIdx hx)
  · rw [e0, e1, List.length_append]
    have := h.few
    simp only [List.length_singleton]
    omega
end Go.Proofs.YtegfnlnbhhmkjaaDoor

namespace Go.Proofs.YtegfnlnbhhmkjaaDoor
set_option maxRecDepth 100000
open Go.RowKit
set_option linter.unusedVariables false
set_option linter.unusedSimpArgs false

theorem hidrt_ {p : Prop} (h : p) : Hid p := h
theorem run_load_subm {P : Program} {w : World} (ty : TypeId) (g off : Nat) (cs : Array Value) (hc : ∀ j, j < cs.size → w.cell? ⟨g, off + j, none⟩ = cs[j]?) (d : TypeDesc)
    (hu : P.underlying ty = some d) (hd : (match d with | .struct _ | .array _ _ => true | _ => false) = true) (hi : (P.info? ty).map (·.size) = some cs.size) : (loadVar ty ⟨g, off, none⟩).run P w = .ok (.agg cs) w := by
  have hl : (loadCells ⟨g, off, none⟩ cs.toList.length).run P w = .ok cs.toList.toArray w :=
    run_loadCells_list (P := P) w ⟨g, off, none⟩ cs.toList (fun j v hv => by
      have hadd : (⟨g, off, none⟩ : Addr).add j = ⟨g, off + j, none⟩ := by unfold Addr.add; split <;> simp_all
      have hj : j < cs.size := by
        have := (List.getElem?_eq_some_iff.1 hv).1
        simpa using this
      rw [hadd, hc j hj]
      simpa using hv)
  cases hq : P.info? ty with
  | none => simp [hq] at hi
  | some i =>
    have hs : i.size = cs.size := by simpa [hq] using hi
    have hagg : (isAgg ty).run P w = .ok true w := by
      unfold isAgg
      rw [Sem.run_bind, run_underlying hu w]
      cases d <;> simp_all
    simp only [Array.length_toList, Array.toArray_toList] at hl
    simp [loadVar, Sem.run_bind, hagg, sizeOf, typeInfo, hq, hs, hl]

theorem eqIB32 (l m : List UInt8) (hl : l.length = 32) (hm : m.length = 32) (W : World) :
    (Op.equalIn 10000 23 (.agg (rowOf l)) (.agg (rowOf m))).run Tryd.prog W = .ok (l == m) W := by
  have hs : ∀ W : World, (sizeOf 5).run Tryd.prog W = .ok 1 W := fun W => by
    obtain ⟨i, hi, hz, hsize, hby⟩ := info_parts info8
    simp [sizeOf, typeInfo, hi, hsize]
  exact run_equalIn_bytes W 9998 23 5 32 Tryd.underlying23 Tryd.underlying5 hs l m hl hm
set_option maxRecDepth 100000 in
theorem eqIPR (x y : Int) (W : World) : (Op.equalIn 10000 38 (.agg #[.int .i64 x, .int .i64 y]) (.agg #[.int .i64 x, .int .i64 y])).run Tryd.prog W = .ok true W := by
  obtain ⟨i, hi, _, _, _⟩ := info_parts infoZ
  have pe : ∀ (W : World) (x : Int), (Op.equalIn 9999 3 (.int .i64 x) (.int .i64 x)).run Tryd.prog W = .ok true W := fun W x => by
    rw [run_equalIn_int W 9998 3 .i64 .i64 x x Tryd.underlying3]
    simp
  have p1 : (part 3 #[.int .i64 x, .int .i64 y] 0).run Tryd.prog W = .ok (.int .i64 x) W := by kernel_rfl
  have p2 : (part 3 #[.int .i64 x, .int .i64 y] 1).run Tryd.prog W = .ok (.int .i64 y) W := by kernel_rfl
  have hc : Tryd.prog.cellsOf 3 = 1 := by kernel_rfl
  rw [run_equalIn_array W 9999 _ _ Tryd.underlying38 hi, hc]
  simp [show List.range 2 = [0, 1] from rfl, Op.eqItems, Sem.run_bind, p1, p2, pe]
/-- A load of a whole part, in a region that only reads. -/
theorem quiet_load_agg {P : Program} {o : Oper} {a : Act} {C : World → Prop} {K : Act → Prop} (ty : TypeId) (x : Operand) (ho : o.op = .load ty x) (g off : Nat) (hx : a.eval x = .pointer (some ⟨g, off, none⟩)) (cs : Array Value)
    (hrun : ∀ W, C W → (loadVar ty ⟨g, off, none⟩).run P W = .ok (.agg cs) W) (hk : K (a.put o.dst (.agg cs))) : o.quiet P a C K :=
  quiet_run (.agg cs) (fun W hW => by
    unfold execOp
    simp only [ho, hx, Instr.loadAt, Instr.sureAddr, Sem.run_bind, Sem.run_pure, Result.andThen_ok, hrun W hW]) hk
theorem builtKr1_32 (a0 a1 a2 a3 a4 a5 a6 a7 a8 a9 a10 a11 a12 a13 a14 a15 a16 a17 a18 a19 a20 a21 a22 a23 a24 a25 a26 a27 a28 a29 a30 a31 : UInt8) : Tryd.prog.built 41 [(0, .agg (rowOf [a0, a1, a2, a3, a4, a5, a6, a7, a8, a9, a10, a11, a12, a13, a14, a15, a16, a17, a18, a19, a20, a21, a22, a23, a24, a25, a26, a27, a28, a29, a30, a31]))] = some (krC ⟨⟨[a0, a1, a2, a3, a4, a5, a6, a7, a8, a9, a10, a11, a12, a13, a14, a15, a16, a17, a18, a19, a20, a21, a22, a23, a24, a25, a26, a27, a28, a29, a30, a31], []⟩, none, 0⟩).toArray := by kernel_rfl
theorem builtKr1 (K : List UInt8) (hK : K.length = 32) : Tryd.prog.built 41 [(0, .agg (rowOf K))] = some (krC ⟨⟨K, []⟩, none, 0⟩).toArray := by
  match K, hK with
  | [a0, a1, a2, a3, a4, a5, a6, a7, a8, a9, a10, a11, a12, a13, a14, a15, a16, a17, a18, a19, a20, a21, a22, a23, a24, a25, a26, a27, a28, a29, a30, a31], _ => exact builtKr1_32 a0 a1 a2 a3 a4 a5 a6 a7 a8 a9 a10 a11 a12 a13 a14 a15 a16 a17 a18 a19 a20 a21 a22 a23 a24 a25 a26 a27 a28 a29 a30 a31
def rtQ (K : List UInt8) (i d : Nat) : MgA := ⟨5, 5, (i : Int), 0, (d : Int), 0, ⟨⟨K, []⟩, none, 0⟩, [], none, 0, [], none, 0, [], none, 0⟩
theorem rtQ_v (K : List UInt8) (i d : Nat) : (rtQ K i d).v = rtV K i d := rfl
theorem rtQ_ok (K : List UInt8) (hK : K.length = 32) (i d : Nat) (w : World) (B : Nat) : (rtQ K i d).Ok w B :=
  ⟨⟨hK, Rd.nil, Nat.le_refl _, Nat.zero_le _⟩, RdG.nil, ⟨Nat.le_refl _, Nat.zero_le _⟩, RdG.nil, ⟨Nat.le_refl _, Nat.zero_le _⟩, fun _ h => (by cases h), RdG.nil, ⟨Nat.le_refl _, Nat.zero_le _⟩, fun _ h => (by cases h)⟩
theorem rtQ_few (K : List UInt8) (i d : Nat) : (rtQ K i d).Few := ⟨Nat.zero_le _, Nat.zero_le _, Nat.zero_le _, Nat.zero_le _, fun _ h => (by cases h)⟩
theorem builtRt_32 (a0 a1 a2 a3 a4 a5 a6 a7 a8 a9 a10 a11 a12 a13 a14 a15 a16 a17 a18 a19 a20 a21 a22 a23 a24 a25 a26 a27 a28 a29 a30 a31 : UInt8) (i d : Int) : Tryd.prog.built 45 [(0, .int .i64 5), (1, .int .i64 5), (2, .int .i64 i), (4, .int .i64 d), (6, .agg (krC ⟨⟨[a0, a1, a2, a3, a4, a5, a6, a7, a8, a9, a10, a11, a12, a13, a14, a15, a16, a17, a18, a19, a20, a21, a22, a23, a24, a25, a26, a27, a28, a29, a30, a31], []⟩, none, 0⟩).toArray)] = some (mgC ⟨5, 5, i, 0, d, 0, ⟨⟨[a0, a1, a2, a3, a4, a5, a6, a7, a8, a9, a10, a11, a12, a13, a14, a15, a16, a17, a18, a19, a20, a21, a22, a23, a24, a25, a26, a27, a28, a29, a30, a31], []⟩, none, 0⟩, [], none, 0, [], none, 0, [], none, 0⟩).toArray := by kernel_rfl
theorem builtRt (K : List UInt8) (hK : K.length = 32) (i d : Nat) : Tryd.prog.built 45 [(0, .int .i64 5), (1, .int .i64 5), (2, .int .i64 (i : Int)), (4, .int .i64 (d : Int)), (6, .agg (krC ⟨⟨K, []⟩, none, 0⟩).toArray)] = some (mgC (rtQ K i d)).toArray := by
  match K, hK with
  | [a0, a1, a2, a3, a4, a5, a6, a7, a8, a9, a10, a11, a12, a13, a14, a15, a16, a17, a18, a19, a20, a21, a22, a23, a24, a25, a26, a27, a28, a29, a30, a31], _ => exact builtRt_32 a0 a1 a2 a3 a4 a5 a6 a7 a8 a9 a10 a11 a12 a13 a14 a15 a16 a17 a18 a19 a20 a21 a22 a23 a24 a25 a26 a27 a28 a29 a30 a31 i d
/-- How many each box has to hold. -/
def wantR (ps : List PrV) (i : Nat) : Array Value := ((List.range 5).map fun k => Value.int .i64 ((cntAt ps k i : Nat) : Int)).toArray
theorem wantR_at (ps : List PrV) (i k : Nat) (h : k < 5) : (wantR ps i)[k]? = some (.int .i64 ((cntAt ps k i : Nat) : Int)) := by
  unfold wantR
  simp [h]
theorem wantR_set (ps : List PrV) (i k : Nat) (h : k < 5) (hp : (ps.getD i ⟨0, 0⟩).p = k) : (wantR ps i).setIfInBounds k (.int .i64 ((cntAt ps k i : Nat) + 1 : Int)) = wantR ps (i + 1) := by
  apply Array.ext_getElem?
  intro j
  by_cases hj : j < 5
  · rw [wantR_at ps (i + 1) j hj, Array.getElem?_setIfInBounds]
    by_cases e : k = j
    · subst e
      have hs : k < (wantR ps i).size := by simp [wantR, h]
      rw [if_pos rfl, if_pos hs]
      simp only [cntAt, if_pos hp, Int.natCast_add]
      rfl
    · rw [if_neg e, wantR_at ps i j hj]
      simp only [cntAt, if_neg (fun h3 => e (hp.symm.trans h3) : ¬ (ps.getD i ⟨0, 0⟩).p = j), Nat.add_zero]
  · simp [wantR, Array.getElem?_setIfInBounds, hj]
    try (intro _; omega)
/-- What is known while messages are under way. -/
structure RouS (w : World) (gk p q gw N : Nat) (K : List UInt8) (A : Option Addr) (c : Nat) (ps : List PrV) (X : Array Value) (L : List (List (List UInt8))) (F : List Nat) (W : World) : Prop where
  net : NetF W p q 6 L F
  key : Bk W gk 23 (rowOf K)
  want : Bk W gw 37 X
  row : OwnE W N (.slice A ps.length c) ps
  bel : Below w.heap.size w W
  hi : ∀ k ∈ F, N ≤ k
  lo : w.heap.size ≤ N ∧ gk < N ∧ N ≤ gw ∧ N ≤ W.heap.size
  nw : gw ∉ F
  nl : ∀ b, (Value.slice A ps.length c).ownBlock = some b → b ∉ F ∧ b ≠ gw
section
variable {w W W' : World} {gk p q gw N c : Nat} {K : List UInt8} {A : Option Addr} {ps : List PrV} {X X' : Array Value} {L L' : List (List (List UInt8))} {F F' : List Nat}
theorem OwnE.keepE {v : Value} {l : List PrV} {base : Nat} {G : List Nat} (h : OwnE W base v l) (hu : Untouched G W W') (hG : ∀ g, v.ownBlock = some g → g ∉ G) : OwnE W' base v l := by
  have hlt := h.lt
  refine ⟨h.1, ?_⟩
  rcases h.2 with hn | ⟨g, cap, cur, rfl, hb, hg, rest⟩
  · exact .inl hn
  · exact .inr ⟨g, cap, cur, rfl, hb, (hu.block g (hlt g rfl).2 (hG g rfl)).trans hg, rest⟩
theorem RouS.low (h : RouS w gk p q gw N K A c ps X L F W) (hb : Below W.heap.size W W') : RouS w gk p q gw N K A c ps X L F W' :=
  ⟨h.net.below hb, h.key.below hb h.key.lt, h.want.below hb h.want.lt, h.row.below hb (Nat.le_refl _), h.bel.trans (hb.mono h.bel.size), h.hi, ⟨h.lo.1, h.lo.2.1, h.lo.2.2.1, Nat.le_trans h.lo.2.2.2 hb.size⟩, h.nw, h.nl⟩
theorem RouS.act (h : RouS w gk p q gw N K A c ps X L F W) (h1 : NetF W' p q 6 L' F') (h2 : Grew W F F') (h3 : Untouched F W W') : RouS w gk p q gw N K A c ps X L' F' W' :=
  ⟨h1, h.key.untouched h3 (fun hm => by have := h.hi _ hm; have := h.lo.2.1; omega), h.want.untouched h3 h.nw, h.row.keepE h3 (fun g hg => (h.nl g hg).1), h.bel.trans (h3.below (fun k hk => Nat.le_trans h.lo.1 (h.hi k hk)) h.bel.size),
    fun k hk => by rcases h2 k hk with g | g; exact h.hi k g; exact Nat.le_trans h.lo.2.2.2 g, ⟨h.lo.1, h.lo.2.1, h.lo.2.2.1, Nat.le_trans h.lo.2.2.2 h3.size⟩,
    fun hm => by rcases h2 _ hm with g | g; exact h.nw g; have := h.want.lt; omega,
    fun b hb => ⟨fun hm => by rcases h2 _ hm with g | g; exact (h.nl b hb).1 g; have := (h.row.lt b hb).2; omega, (h.nl b hb).2⟩⟩
theorem RouS.put (h : RouS w gk p q gw N K A c ps X L F W) (hb : Bk W' gw 37 X') (hu : Untouched [gw] W W') : RouS w gk p q gw N K A c ps X' L F W' :=
  ⟨h.net.keep hu (fun k hk hm => h.nw (by rw [List.mem_singleton.1 hm] at hk; exact hk)), h.key.untouched hu (fun hm => by have h9 := List.mem_singleton.1 hm; have := h.lo; omega), hb, h.row.keepE hu (fun g hg hm => (h.nl g hg).2 (List.mem_singleton.1 hm)),
    h.bel.trans (hu.below (fun k hk => by rw [List.mem_singleton.1 hk]; have := h.lo; omega) h.bel.size), h.hi, ⟨h.lo.1, h.lo.2.1, h.lo.2.2.1, Nat.le_trans h.lo.2.2.2 hu.size⟩, h.nw, h.nl⟩
theorem RouS.blk (h : RouS w gk p q gw N K A c ps X L F W) (hn : 0 < ps.length) : ∃ g7, A = some ⟨g7, 0, none⟩ := by
  rcases h.row.2 with ⟨hv, h0⟩ | ⟨g, cap, cur, hv, _⟩
  · omega
  · injection hv with e1 e2 e3
    exact ⟨g, e1⟩
theorem RouS.cells {g7 : Nat} (h : RouS w gk p q gw N K (some ⟨g7, 0, none⟩) c ps X L F W) (k : Nat) (hk : k < ps.length) : W.cell? ⟨g7, k * 2, none⟩ = some (.int .i64 ((ps.getD k ⟨0, 0⟩).p : Int)) ∧ W.cell? ⟨g7, k * 2 + 1, none⟩ = some (.int .i64 ((ps.getD k ⟨0, 0⟩).r : Int)) := by
  obtain ⟨b, off, e, _, hc⟩ := h.row.rd.1 (by omega)
  injection e with e
  injection e with e1 e2 _
  subst e1 e2
  have h2 := hc k hk
  rw [Nat.zero_add] at h2
  exact h2
theorem RouS.drewN (h : RouS w gk p q gw N K A c ps X L F W) (n : Nat) : RouS w gk p q gw N K A c ps X L F (W.drewN n) := h.low (below_drewN (Below.refl _ _) n)
end
/-- How many are in a box, as memory tells. -/
def lenC (W : World) (q o : Nat) : Nat := match W.cell? ⟨q, o, none⟩ with
  | some (.slice _ n _) => n
  | _ => 0
theorem lenC_of {W : World} {p q : Nat} {L : List (List (List UInt8))} {F : List Nat} (h : NetF W p q 6 L F) (k : Nat) (hk : k < 6) : lenC W q (k * 2) = (L.getD (k * 2) []).length := by
  obtain ⟨A, c, hc, _⟩ := h.at_ (k * 2) (by omega)
  unfold lenC
  rw [hc]
theorem len_c {W : World} {p q : Nat} {L : List (List (List UInt8))} {F : List Nat} (h : NetF W p q 6 L F) (k : Nat) (hk : k < 6) (m : Nat) (hm : (L.getD (k * 2) []).length = m) :
    ∀ W', W' = W → Calls Tryd.prog 10 #[.pointer (some ⟨p, 0, none⟩), .int .i64 (k : Int)] W' fun e w' => e = .returned (.int .i64 (m : Int)) ∧ w' = W := fun W' hW => by
  subst hW
  exact (len_yesv h k hk m hm).mono fun e w' hh => ⟨hh.1, hh.2.symm⟩
end Go.Proofs.YtegfnlnbhhmkjaaDoor
