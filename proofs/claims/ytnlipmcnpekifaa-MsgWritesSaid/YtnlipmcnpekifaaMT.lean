/-
  Merged: Stt Mtw Mto.
-/
import Derived.Test.YtnlipmcnpekifaaGrs
import Derived.Test.YtnlipmcnpekifaaAm
import Derived.Test.YtnlipmcnpekifaaChj
import Derived.Test.YtnlipmcnpekifaaMoqw
import Derived.Test.YtnlipmcnpekifaaMol
import Derived.Test.YtnlipmcnpekifaaMoo
namespace Go.Proofs.Ytnlipmcnpekifaa
set_option maxRecDepth 100000
open Go.ChangeShapes Go.WideShapes Go.ChangeAt Go.RowKit
set_option linter.unusedVariables false
set_option linter.unusedSimpArgs false

/-- All blocks from g on stay but those of the types ts. -/
structure StT (ts : List TypeId) (g : Nat) (w w' : World) : Prop where
  size : w.heap.size ≤ w'.heap.size
  keep : ∀ b cs u m, g ≤ b → w.heap[b]? = some (.cells cs u m) → u ∉ ts → w'.heap[b]? = some (.cells cs u m)
section
variable {ts ss : List TypeId} {g h : Nat} {w w' w2 : World}
theorem StT.refl (ts : List TypeId) (g : Nat) (w : World) : StT ts g w w := ⟨Nat.le_refl _, fun _ _ _ _ _ h _ => h⟩
theorem StT.trans (a : StT ts g w w') (b : StT ts g w' w2) : StT ts g w w2 := ⟨Nat.le_trans a.size b.size, fun k cs u m hk hb hu => b.keep k cs u m hk (a.keep k cs u m hk hb hu) hu⟩
theorem StT.more (a : StT ts g w w') (hs : ∀ t ∈ ts, t ∈ ss) : StT ss g w w' := ⟨a.size, fun k cs u m hk hb hu => a.keep k cs u m hk hb (fun h => hu (hs u h))⟩
theorem StT.up (a : StT ts g w w') (hh : g ≤ h) : StT ts h w w' := ⟨a.size, fun k cs u m hk hb hu => a.keep k cs u m (Nat.le_trans hh hk) hb hu⟩
theorem StT.of_below {B : Nat} (ts : List TypeId) (g : Nat) (hb : Below B w w') (hB : w.heap.size ≤ B) : StT ts g w w' :=
  ⟨hb.size, fun k cs u m _ hk _ => by
    have hl : k < w.heap.size := (Array.getElem?_eq_some_iff.1 hk).1
    rw [hb.block k (by omega)]; exact hk⟩
theorem StT.drewN (ts : List TypeId) (g : Nat) (w : World) (n : Nat) : StT ts g w (w.drewN n) := ⟨Nat.le_refl _, fun _ _ _ _ _ h _ => h⟩
theorem StT.of_grown {k : Nat} {t : TypeId} {cs0 : Array Value} {m0 : Nat × Nat} (hg : w.grownBy w' (some k)) (hk : w.heap[k]? = some (.cells cs0 t m0)) (ht : t ∈ ts) : StT ts g w w' :=
  ⟨hg.size, fun b cs u m _ hb hu => by
    have hl : b < w.heap.size := (Array.getElem?_eq_some_iff.1 hb).1
    rw [hg.block b hl (fun e => by
      injection e with e
      subst e
      rw [hk] at hb
      injection hb with hb
      injection hb with _ hb2 _
      subst hb2
      exact hu ht)]
    exact hb⟩
theorem StT.of_grown_none (hg : w.grownBy w' none) : StT ts g w w' :=
  ⟨hg.size, fun b cs u m _ hb hu => by
    have hl : b < w.heap.size := (Array.getElem?_eq_some_iff.1 hb).1
    rw [hg.block b hl (by simp)]
    exact hb⟩
theorem Bk.st {b : Nat} {t : TypeId} {cs : Array Value} (hb : Bk w b t cs) (hs : StT ts g w w') (hg : g ≤ b) (ht : t ∉ ts) : Bk w' b t cs := hs.keep b cs t (0, 0) hg hb ht
variable {base : Nat} {v : Value}
theorem OwnT.st {l : List UInt8} (ho : OwnT w base v l) (hs : StT ts g w w') (hg : g ≤ base) (ht : 5 ∉ ts) : OwnT w' base v l := by
  rcases ho with hn | ⟨b, cap, cur, fz, rfl, hb, hgg, rest⟩
  · exact .inl hn
  · exact .inr ⟨b, cap, cur, fz, rfl, hb, hs.keep b _ _ _ (by omega) hgg ht, rest⟩
theorem OwnT.lower {b' : Nat} {l : List UInt8} (ho : OwnT w base v l) (hb : b' ≤ base) : OwnT w b' v l := by
  rcases ho with hn | ⟨b, cap, cur, fz, rfl, hb2, rest⟩
  · exact .inl hn
  · exact .inr ⟨b, cap, cur, fz, rfl, by omega, rest⟩
variable {α : Type} {N : Enc α} {te : TypeId} {l : List α}
theorem OwnG.st (ho : OwnG N te w base v l) (hs : StT ts g w w') (hg : g ≤ base) (ht : te ∉ ts) : OwnG N te w' base v l := by
  refine ⟨ho.1, ?_⟩
  rcases ho.2 with hn | ⟨b, cap, cur, rfl, hb, hgg, rest⟩
  · exact .inl hn
  · exact .inr ⟨b, cap, cur, rfl, hb, hs.keep b _ _ _ (by omega) hgg ht, rest⟩
/-- What an append onto an own row leaves as it was. -/
theorem OwnG.grownSt (ho : OwnG N te w base v l) (hg : w.grownBy w' v.ownBlock) (ht : te ∈ ts) : StT ts g w w' := by
  rcases ho.2 with ⟨hn, _⟩ | ⟨b, cap, cur, rfl, hb, hgg, rest⟩
  · subst hn
    exact .of_grown_none hg
  · exact .of_grown hg hgg ht
/-- append onto a slice with no room: it is new, or nothing was appended. -/
theorem run_app0G {tsl : TypeId} {by_ : Nat} (hts : Try.prog.underlying tsl = some (.slice te)) (hinfo : (Try.prog.info? te).map (fun i => (i.size, i.bytes, i.zero.map (·.cells.size))) = some (N.k, by_, some N.k))
    (b0 : Nat) (h0 : OwnG N te w base (.slice (some ⟨b0, 0, none⟩) 0 0) []) {B : Nat} {A : Option Addr} {m : List α} (hr : RdG N w B A m) (n c : Nat) (hn : m.length = n) (ty : TypeId)
    (hsz : n * by_ ≤ 140737488355328) (hby0 : 0 < by_) (hbase : base ≤ w.heap.size) :
    ∃ A' c' w', (Builtin.append_ #[tsl, tsl] ty #[.slice (some ⟨b0, 0, none⟩) 0 0, .slice A n c]).run Try.prog w = .ok (.slice A' n c') w' ∧ OwnG N te w' base (.slice A' n c') m ∧ Below w.heap.size w w' := by
  subst hn
  obtain ⟨i, hi, hii⟩ := Option.map_eq_some_iff.1 hinfo
  simp only [Prod.mk.injEq] at hii
  obtain ⟨hsize, hby, hzz⟩ := hii
  obtain ⟨z, hz, hzs⟩ := Option.map_eq_some_iff.1 hzz
  have hk := N.pos
  rcases Nat.eq_zero_or_pos m.length with hm0 | hm0
  · have hm : m = [] := List.eq_nil_of_length_eq_zero hm0
    subst hm
    refine ⟨some ⟨b0, 0, none⟩, 0, w, ?_, h0, Below.refl _ _⟩
    cases A with
    | none => simp [Builtin.append_, run_underlying hts, sizeOf, typeInfo, hi, Builtin.lenOf, Builtin.firstCells, storeCells]
    | some ad => simp [Builtin.append_, run_underlying hts, sizeOf, typeInfo, hi, Builtin.lenOf, Builtin.firstCells, storeCells, loadCells, loadCellsFrom]
  · obtain ⟨b, off, rfl, _, _⟩ := id hr hm0
    have hle : m.length ≤ m.length * by_ := Nat.le_mul_of_pos_right _ hby0
    have hl : (rowG N m).length = m.length * i.size := by rw [hsize]; exact rowG_len N m
    have hr2 := run_append_grow (P := Try.prog) w tsl ty te i z hts hi hz ⟨b0, 0, none⟩ 0 0 [] (by simp) (by intro j v hj; simp at hj) ⟨b, off, none⟩ m.length c (rowG N m) hl (news_of_rdG hr)
      (by omega) (by omega) (growslice_fits (by omega) (by rw [hby, Nat.zero_add]; omega))
    simp only [Nat.zero_add] at hr2
    have hge := grownCap_ge w m.length 0 te
    have hcm : grownCap w m.length 0 te ≤ maxLen := grownCap_le_maxLen w m.length 0 te (by unfold maxLen; omega)
    refine ⟨_, _, _, hr2, ⟨rowG_len N m, .inr ⟨w.heap.size, _, _, rfl, hbase, heap_alloc_new w.drew _, hge, hcm, ?_, ?_⟩⟩, ((Below.refl _ _).drew).alloc (by simp) _⟩
    · simp only [Array.size_append, List.size_toArray, size_zeroCells, hzs, rowG_len, List.length_nil, Nat.zero_add]
      rw [← Nat.add_mul]
      congr 1
      omega
    · simp only [Array.toList_append, List.nil_append]
      rw [← rowG_len N m]
      exact List.take_left
theorem step_app0G {tsl : TypeId} {by_ : Nat} {ops : Array Oper} {o : Oper} {a : Act} {K : Act → World → Prop} {Q : Exit → Act → World → Prop} {E : Prop} (hw : Region.wanted o (yielded ops a.tmps) = true) (s x : Operand)
    (ho : o.op = .call { callee := .builtin .append, args := #[s, x], argTypes := #[tsl, tsl] })
    (hts : Try.prog.underlying tsl = some (.slice te)) (hinfo : (Try.prog.info? te).map (fun i => (i.size, i.bytes, i.zero.map (·.cells.size))) = some (N.k, by_, some N.k))
    (b0 : Nat) (h0 : OwnG N te w base (.slice (some ⟨b0, 0, none⟩) 0 0) []) (hs : a.eval s = .slice (some ⟨b0, 0, none⟩) 0 0) {B : Nat} {A : Option Addr} {m : List α} (n c : Nat) (hx : a.eval x = .slice A n c) (hr : RdG N w B A m) (hn : m.length = n)
    (hsz : n * by_ ≤ 140737488355328) (hby0 : 0 < by_) (hbase : base ≤ w.heap.size)
    (hK : ∀ A' c' w', OwnG N te w' base (.slice A' n c') m → Below w.heap.size w w' → K (a.put o.dst (.slice A' n c')) w') : if Region.wanted o (yielded ops a.tmps) = true then Oper.wp Try.prog o a w K Q else E := by
  rw [if_pos hw]
  obtain ⟨A', c', w', hrun, h1, h2⟩ := run_app0G hts hinfo b0 h0 hr n c hn o.type hsz hby0 hbase
  unfold Oper.wp execOp
  simp only [ho, resolve, invoke, builtin, Sem.run_bind, Sem.run_pure, Result.andThen_ok, List.map_toArray, List.map_cons, List.map_nil, hs, hx, hrun]
  exact hK A' c' w' h1 h2
/-- '[]byte(s)' in a drawn region. -/
theorem step_bytesT {ops : Array Oper} {o : Oper} {a : Act} {K : Act → World → Prop} {Q : Exit → Act → World → Prop} {E : Prop} (hw : Region.wanted o (yielded ops a.tmps) = true) (x : Operand)
    (ho : o.op = .convert 9 30 x) (s : List UInt8) (hx : a.eval x = .string (strOf s)) (hb : base ≤ w.heap.size) (hm : s.length ≤ maxLen)
    (hK : ∀ A c w', OwnT w' base (.slice A s.length c) s → Below w.heap.size w w' → K (a.put o.dst (.slice A s.length c)) w') : if Region.wanted o (yielded ops a.tmps) = true then Oper.wp Try.prog o a w K Q else E := by
  obtain ⟨h1, h2⟩ := OwnT.of_string w base s hb hm
  refine step_run hw ?_ (hK _ _ _ h2 (((Below.refl _ _).drew).alloc (by simp) _))
  unfold execOp
  simp only [ho, hx, Sem.run_bind, Sem.run_pure, Result.andThen_ok, h1]
end
/-- A box that is laid once, and stored once, behind all others. -/
structure BxJ (n1 n2 s : Nat) (t : TypeId) (z : Array Value) (B : Nat) (w0 : World) (V : Nat → World → Prop) (D : Nat → Bool) (a : Act) (W : World) : Prop where
  all_ : D n2 = true → ∀ j, j < n2 → D j = true
  bel : Below B w0 W
  siz : B ≤ W.heap.size
  fresh : D n1 = true → D n2 = false → ∃ b, a.tmps.getD s undef = .pointer (some ⟨b, 0, none⟩) ∧ B ≤ b ∧ Bk W b t z
  done : D n2 = true → ∃ b, a.tmps.getD s undef = .pointer (some ⟨b, 0, none⟩) ∧ B ≤ b ∧ V b W
section
variable {n1 n2 s : Nat} {t : TypeId} {z : Array Value} {B : Nat} {w0 : World} {V : Nat → World → Prop} {D : Nat → Bool} {a : Act} {W W' : World}
theorem BxJ.start (hb : Below B w0 W) (hs : B ≤ W.heap.size) : BxJ n1 n2 s t z B w0 V (fun _ => false) a W := ⟨fun h => (by cases h), hb, hs, fun h => (by cases h), fun h => (by cases h)⟩
/-- An operation that makes memory at most. -/
theorem BxJ.same (h : BxJ n1 n2 s t z B w0 V D a W) (i : Nat) (hi : i < n2) (h1 : n1 ≠ i) (hL : D i = false) {s2 : Nat} (hs : s2 ≠ s) (v : Value) (hb : Below W.heap.size W W') : BxJ n1 n2 s t z B w0 V (fun j => decide (j = i) || D j) (a.put (some s2) v) W' := by
  have hn2 : D n2 = false := by
    cases e : D n2 with
    | false => rfl
    | true => rw [h.all_ e i hi] at hL; cases hL
  have e2 : (decide (n2 = i) || D n2) = false := by rw [hn2, decide_eq_false (by omega)]; rfl
  have hp : (a.put (some s2) v).tmps.getD s undef = a.tmps.getD s undef := by simp [Act.put, Array.getElem?_setIfInBounds, hs]
  refine ⟨fun h => (by rw [e2] at h; cases h), h.bel.trans (hb.mono h.siz), Nat.le_trans h.siz hb.size, fun h3 _ => ?_, fun h => (by rw [e2] at h; cases h)⟩
  rw [hp]
  obtain ⟨b, x1, x2, x3⟩ := h.fresh (by simpa [h1] using h3) hn2
  exact ⟨b, x1, x2, x3.below hb x3.lt⟩
theorem BxJ.alloc (h : BxJ n1 n2 s t z B w0 V D a W) (hi : n1 < n2) (hL : D n1 = false) (hs : s < a.tmps.size) : BxJ n1 n2 s t z B w0 V (fun j => decide (j = n1) || D j) (a.put (some s) (.pointer (some ⟨W.heap.size, 0, none⟩))) (W.alloc (.cells z t)) := by
  have hn2 : D n2 = false := by
    cases e : D n2 with
    | false => rfl
    | true => rw [h.all_ e n1 hi] at hL; cases hL
  have e2 : (decide (n2 = n1) || D n2) = false := by rw [hn2, decide_eq_false (by omega)]; rfl
  have hp : (a.put (some s) (.pointer (some ⟨W.heap.size, 0, none⟩))).tmps.getD s undef = .pointer (some ⟨W.heap.size, 0, none⟩) := by simp [Act.put, Array.getElem?_setIfInBounds, hs]
  have hb : Below W.heap.size W (W.alloc (.cells z t)) := (Below.refl _ _).alloc (Nat.le_refl _) _
  exact ⟨fun h => (by rw [e2] at h; cases h), h.bel.trans (hb.mono h.siz), Nat.le_trans h.siz hb.size, fun _ _ => ⟨_, hp, h.siz, Bk.new W _ _⟩, fun h => (by rw [e2] at h; cases h)⟩
theorem BxJ.not2 (h : BxJ n1 n2 s t z B w0 V D a W) {i : Nat} (hi : i < n2) (hL : D i = false) : D n2 = false := by
  cases e : D n2 with
  | false => rfl
  | true => rw [h.all_ e i hi] at hL; cases hL
theorem BxJ.store {b : Nat} (h : BxJ n1 n2 s t z B w0 V D a W) (hd : ∀ j, j < n2 → D j = true) (e : a.tmps.getD s undef = .pointer (some ⟨b, 0, none⟩)) (hB : B ≤ b) (hb : Below B W W') (hV : V b W') (v : Value) : BxJ n1 n2 s t z B w0 V (fun j => decide (j = n2) || D j) (a.put none v) W' :=
  ⟨fun _ j hj => by simp [hd j hj], h.bel.trans hb, Nat.le_trans h.siz hb.size, fun _ h4 => (by simp at h4), fun _ => ⟨b, e, hB, hV⟩⟩
end
/-- An append, then a store of what it gave, in a drawn region; L: who waits for whom. -/
structure AcJ (n1 n2 s1 : Nat) (L : List (Nat × Nat)) (S0 S1 S2 : World → Prop) (V : Value → World → Prop) (D : Nat → Bool) (a : Act) (W : World) : Prop where
  imp : ∀ p ∈ L, D p.1 = true → D p.2 = true
  ord : D n2 = true → D n1 = true
  s0 : D n1 = false → S0 W
  s1 : D n1 = true → D n2 = false → S1 W ∧ V (a.tmps.getD s1 undef) W
  s2 : D n2 = true → S2 W
section
variable {n1 n2 s1 : Nat} {L : List (Nat × Nat)} {S0 S1 S2 : World → Prop} {V : Value → World → Prop} {D : Nat → Bool} {a : Act} {W W' : World}
theorem AcJ.start (h : S0 W) : AcJ n1 n2 s1 L S0 S1 S2 V (fun _ => false) a W := ⟨fun _ _ h => (by cases h), fun h => (by cases h), fun _ => h, fun h => (by cases h), fun h => (by cases h)⟩
theorem AcJ.no (h : AcJ n1 n2 s1 L S0 S1 S2 V D a W) (x y : Nat) (hp : (x, y) ∈ L) (hy : D y = false) : D x = false := by
  cases e : D x with
  | false => rfl
  | true =>
    have h2 : D y = true := h.imp _ hp e
    rw [hy] at h2; cases h2
theorem AcJ.any (h : AcJ n1 n2 s1 L S0 S1 S2 V D a W) {P : World → Prop} (p0 : S0 W → P W) (p1 : S1 W → P W) (p2 : S2 W → P W) : P W := by
  cases e1 : D n1 with
  | false => exact p0 (h.s0 e1)
  | true =>
    cases e2 : D n2 with
    | false => exact p1 (h.s1 e1 e2).1
    | true => exact p2 (h.s2 e2)
theorem AcJ.imp_ (h : AcJ n1 n2 s1 L S0 S1 S2 V D a W) (i : Nat) (hi : ∀ p ∈ L, p.1 = i → D p.2 = true) : ∀ p ∈ L, (decide (p.1 = i) || D p.1) = true → (decide (p.2 = i) || D p.2) = true := fun p hp e => by
  rw [Bool.or_eq_true] at e ⊢
  rcases e with e | e
  · exact .inr (hi p hp (of_decide_eq_true e))
  · exact .inr (h.imp p hp e)
/-- An operation that leaves memory as it is. -/
theorem AcJ.same (h : AcJ n1 n2 s1 L S0 S1 S2 V D a W) (i : Nat) (h1 : n1 ≠ i) (h2 : n2 ≠ i) (hi : ∀ p ∈ L, p.1 = i → D p.2 = true) {s : Nat} (hs : s ≠ s1) (v : Value) : AcJ n1 n2 s1 L S0 S1 S2 V (fun j => decide (j = i) || D j) (a.put (some s) v) W := by
  have hp : (a.put (some s) v).tmps.getD s1 undef = a.tmps.getD s1 undef := by simp [Act.put, Array.getElem?_setIfInBounds, hs]
  refine ⟨h.imp_ i hi, fun e => ?_, fun e => h.s0 (by simpa [h1] using e), fun e f => ?_, fun e => h.s2 (by simpa [h2] using e)⟩
  · have := h.ord (by simpa [h2] using e)
    simp [this]
  · rw [hp]
    exact h.s1 (by simpa [h1] using e) (by simpa [h2] using f)
/-- One that makes memory, ahead of the append. -/
theorem AcJ.low (h : AcJ n1 n2 s1 L S0 S1 S2 V D a W) (i : Nat) (hn : D n1 = false) (h1 : n1 ≠ i) (h2 : n2 ≠ i) (hi : ∀ p ∈ L, p.1 = i → D p.2 = true) (hW : S0 W → S0 W') (a' : Act) : AcJ n1 n2 s1 L S0 S1 S2 V (fun j => decide (j = i) || D j) a' W' := by
  have hn2 : D n2 = false := by
    cases e : D n2 with
    | false => rfl
    | true => rw [h.ord e] at hn; cases hn
  have e1 : (decide (n1 = i) || D n1) = false := by rw [hn, decide_eq_false h1]; rfl
  have e2 : (decide (n2 = i) || D n2) = false := by rw [hn2, decide_eq_false h2]; rfl
  exact ⟨h.imp_ i hi, fun e => (by rw [e2] at e; cases e), fun _ => hW (h.s0 hn), fun e => (by rw [e1] at e; cases e), fun e => (by rw [e2] at e; cases e)⟩
theorem AcJ.app (h : AcJ n1 n2 s1 L S0 S1 S2 V D a W) (hn : D n1 = false) (h12 : n2 ≠ n1) (hi : ∀ p ∈ L, p.1 = n1 → D p.2 = true) (hs : s1 < a.tmps.size) {v : Value} (hS : S1 W') (hV : V v W') : AcJ n1 n2 s1 L S0 S1 S2 V (fun j => decide (j = n1) || D j) (a.put (some s1) v) W' := by
  have hn2 : D n2 = false := by
    cases e : D n2 with
    | false => rfl
    | true => rw [h.ord e] at hn; cases hn
  have e2 : (decide (n2 = n1) || D n2) = false := by rw [hn2, decide_eq_false h12]; rfl
  have hp : (a.put (some s1) v).tmps.getD s1 undef = v := by simp [Act.put, Array.getElem?_setIfInBounds, hs]
  exact ⟨h.imp_ n1 hi, fun e => (by rw [e2] at e; cases e), fun e => (by simp at e), fun _ _ => ⟨hS, by rw [hp]; exact hV⟩, fun e => (by rw [e2] at e; cases e)⟩
theorem AcJ.store (h : AcJ n1 n2 s1 L S0 S1 S2 V D a W) (hn : D n1 = true) (hi : ∀ p ∈ L, p.1 = n2 → D p.2 = true) (hS : S2 W') (a' : Act) : AcJ n1 n2 s1 L S0 S1 S2 V (fun j => decide (j = n2) || D j) a' W' :=
  ⟨h.imp_ n2 hi, fun _ => by simp [hn], fun e => (by rw [hn] at e; simp at e), fun _ e => (by simp at e), fun _ => hS⟩
end
end Go.Proofs.Ytnlipmcnpekifaa

namespace Go.Proofs.Ytnlipmcnpekifaa
set_option maxRecDepth 100000
open Go.RowKit
set_option linter.unusedVariables false
set_option linter.unusedSimpArgs false

theorem builtMg32 (a0 a1 a2 a3 a4 a5 a6 a7 a8 a9 a10 a11 a12 a13 a14 a15 a16 a17 a18 a19 a20 a21 a22 a23 a24 a25 a26 a27 a28 a29 a30 a31 : UInt8) (S : List UInt8) (A : Option Addr) (c : Nat) (k f q er fo lv : Int) (B : Option Addr) (n d : Nat) :
    Try.prog.built 41 [(0, .int .i64 k), (1, .int .i64 f), (2, .int .i64 q), (3, .int .i64 er), (4, .int .i64 fo), (5, .int .i64 lv), (6, .agg (krC ⟨⟨[a0, a1, a2, a3, a4, a5, a6, a7, a8, a9, a10, a11, a12, a13, a14, a15, a16, a17, a18, a19, a20, a21, a22, a23, a24, a25, a26, a27, a28, a29, a30, a31], S⟩, A, c⟩).toArray), (7, .slice B n d)] = some ([Value.int .i64 k, .int .i64 f, .int .i64 q, .int .i64 er, .int .i64 fo, .int .i64 lv] ++ (krC ⟨⟨[a0, a1, a2, a3, a4, a5, a6, a7, a8, a9, a10, a11, a12, a13, a14, a15, a16, a17, a18, a19, a20, a21, a22, a23, a24, a25, a26, a27, a28, a29, a30, a31], S⟩, A, c⟩ ++ [Value.slice B n d, .slice none 0 0, .slice none 0 0])).toArray := by kernel_rfl
theorem builtMg (K S : List UInt8) (hK : K.length = 32) (A : Option Addr) (c : Nat) (k f q er fo lv : Int) (xs : List Int) (B : Option Addr) (n d : Nat) (hn : xs.length = n) :
    Try.prog.built 41 [(0, .int .i64 k), (1, .int .i64 f), (2, .int .i64 q), (3, .int .i64 er), (4, .int .i64 fo), (5, .int .i64 lv), (6, .agg (krC ⟨⟨K, S⟩, A, c⟩).toArray), (7, .slice B n d)] = some (mgC ⟨k, f, q, er, fo, lv, ⟨⟨K, S⟩, A, c⟩, xs, B, d, [], none, 0, [], none, 0⟩).toArray := by
  subst hn
  match K, hK with
  | [a0, a1, a2, a3, a4, a5, a6, a7, a8, a9, a10, a11, a12, a13, a14, a15, a16, a17, a18, a19, a20, a21, a22, a23, a24, a25, a26, a27, a28, a29, a30, a31], _ => exact builtMg32 a0 a1 a2 a3 a4 a5 a6 a7 a8 a9 a10 a11 a12 a13 a14 a15 a16 a17 a18 a19 a20 a21 a22 a23 a24 a25 a26 a27 a28 a29 a30 a31 S A c k f q er fo lv B xs.length d
theorem mgC_digs (q : MgA) (h : q.row.r.key.length = 32) (l : List (List UInt8)) (A : Option Addr) (n c : Nat) (hn : l.length = n) : (mgC q).toArray.setIfInBounds 40 (.slice A n c) = (mgC { q with digs := l, da := A, dc := c }).toArray := by
  subst hn
  exact (mgC_up q h 1 _).trans rfl
theorem mgC_rows (q : MgA) (h : q.row.r.key.length = 32) (l : List KrA) (A : Option Addr) (n c : Nat) (hn : l.length = n) : (mgC q).toArray.setIfInBounds 41 (.slice A n c) = (mgC { q with rows := l, ra := A, rc := c }).toArray := by
  subst hn
  exact (mgC_up q h 2 _).trans rfl
/-- An own row of rows whose bytes are the call's own, too. -/
def RwsO (W : World) (B : Nat) (l : List KrA) : Prop := ∀ r ∈ l, r.r.key.length = 32 ∧ OwnT W B (.slice r.sa r.r.set.length r.sc) r.r.set
theorem RwsO.st {W W' : World} {B g : Nat} {l : List KrA} {ts : List TypeId} (h : RwsO W B l) (hs : StT ts g W W') (hg : g ≤ B) (ht : 5 ∉ ts) : RwsO W' B l := fun r hr => ⟨(h r hr).1, (h r hr).2.st hs hg ht⟩
theorem OwnT.kr {W : World} {B : Nat} {A : Option Addr} {c : Nat} {K S : List UInt8} (h : OwnT W B (.slice A S.length c) S) (hK : K.length = 32) : (⟨⟨K, S⟩, A, c⟩ : KrA).Ok W W.heap.size := ⟨hK, h.rd.1, h.rd.2.2.1, h.rd.2.2.2⟩
theorem RwsO.oks {W : World} {B : Nat} {l : List KrA} (h : RwsO W B l) : ∀ r ∈ l, r.Ok W W.heap.size := fun r hr => (h r hr).2.kr (h r hr).1
theorem OwnT.blk {w w' : World} {base : Nat} {v : Value} {l : List UInt8} (h : OwnT w base v l) (hT : ∀ b, base ≤ b → b < w.heap.size → w'.heap[b]? = w.heap[b]?) : OwnT w' base v l := by
  rcases h with hn | ⟨b, cap, cur, fz, rfl, hb, hgg, rest⟩
  · exact .inl hn
  · exact .inr ⟨b, cap, cur, fz, rfl, hb, (hT b hb (Array.getElem?_eq_some_iff.1 hgg).1).trans hgg, rest⟩
/-- What `to` gives. -/
def ToP (q0 : RmV) (w : World) (e : Ending) (w' : World) : Prop := ∃ q : MgA, e = .returned (.agg (mgC q).toArray) ∧ q.v = q0.v ∧ q.Ok w' w'.heap.size ∧ Below w.heap.size w w'
end Go.Proofs.Ytnlipmcnpekifaa

namespace Go.Proofs.Ytnlipmcnpekifaa
set_option maxRecDepth 100000
open Go.RowKit
set_option linter.unusedVariables false
set_option linter.unusedSimpArgs false

set_option maxRecDepth 100000 in
set_option maxHeartbeats 16000000 in
theorem to_any (w : World) (q : RmV) (hq : q.Ok w w.heap.size) (h32 : K32 q.v) (hX : q.ats.length ≤ 1000) (hD : q.digs.length ≤ 1000) (hR : q.rows.length ≤ 1000) (hS : q.set.length ≤ 1000000) (hRS : ∀ r ∈ q.rows, r.set.length ≤ 1000000) :
    Calls Try.prog 8 #[.agg (rmC q)] w (ToP q w) := by
  obtain ⟨kd, fr, ak, er, fo, lv, K, S, xs, A1, c1, ds, A2, c2, rs, A3, c3⟩ := q
  obtain ⟨g, hg⟩ : ∃ g, w.heap.size = g := ⟨_, rfl⟩
  obtain ⟨w1, hw1⟩ : ∃ x, w.alloc (.cells (rmC (⟨kd, fr, ak, er, fo, lv, K, S, xs, A1, c1, ds, A2, c2, rs, A3, c3⟩ : RmV)) 28) = x := ⟨_, rfl⟩
  obtain ⟨w2, hw2⟩ : ∃ x, w1.alloc (.cells (mgC mgZ).toArray 41) = x := ⟨_, rfl⟩
  have S1 : w1.heap.size = g + 1 := by rw [← hw1, ← hg]; simp
  have B1 := show Below w.heap.size w w1 by rw [← hw1]; exact (Below.refl _ _).alloc (Nat.le_refl _) _
  have B2 := show Below w1.heap.size w1 w2 by rw [← hw2]; exact (Below.refl _ _).alloc (Nat.le_refl _) _
  have S2 := hidm_ (show w2.heap.size = g + 2 by rw [← hw2]; simp [S1])
  have M2 := hidm_ (show Bk w2 g 28 (rmC (⟨kd, fr, ak, er, fo, lv, K, S, xs, A1, c1, ds, A2, c2, rs, A3, c3⟩ : RmV)) by
    have h0 : Bk w1 g 28 (rmC (⟨kd, fr, ak, er, fo, lv, K, S, xs, A1, c1, ds, A2, c2, rs, A3, c3⟩ : RmV)) := by rw [← hw1, ← hg]; exact Bk.new w _ _
    exact h0.below B2 h0.lt)
  have R2 := hidm_ (show Bk w2 (g + 1) 41 (mgC mgZ).toArray by rw [← hw2, ← S1]; exact Bk.new w1 _ _)
  have X2 := hidm_ (show Below g w w2 by rw [← hg]; exact B1.trans (B2.mono (by omega)))
  rw [hg] at hq
  have HQ := hidm_ hq
  have HG := hidm_ hg
  have KL := hidm_ (show K.length = 32 from h32.1)
  have DL := hidm_ (show ∀ d ∈ ds, d.length = 32 from h32.2.1)
  have RL := hidm_ (show ∀ r ∈ rs, r.key.length = 32 from h32.2.2)
  have RSL := hidm_ hRS
  obtain ⟨nX, hnX⟩ : ∃ n, xs.length = n := ⟨_, rfl⟩
  obtain ⟨nD, hnD⟩ : ∃ n, ds.length = n := ⟨_, rfl⟩
  obtain ⟨nR, hnR⟩ : ∃ n, rs.length = n := ⟨_, rfl⟩
  obtain ⟨nS, hnS⟩ : ∃ n, S.length = n := ⟨_, rfl⟩
  have HNX := hidm_ hnX
  have HND := hidm_ hnD
  have HNR := hidm_ hnR
  have HNS := hidm_ hnS
  simp only [hnX] at hX
  simp only [hnD] at hD
  simp only [hnR] at hR
  simp only [hnS] at hS
  have LO := hidm_ (show ∀ W, Below (g + 2) w2 W → W.cell? ⟨g, 0, none⟩ = some (.int .i64 kd) ∧ W.cell? ⟨g, 1, none⟩ = some (.int .i64 fr) ∧ W.cell? ⟨g, 2, none⟩ = some (.int .i64 ak) ∧ W.cell? ⟨g, 3, none⟩ = some (.int .i64 er) ∧ W.cell? ⟨g, 4, none⟩ = some (.int .i64 fo) ∧ W.cell? ⟨g, 5, none⟩ = some (.int .i64 lv) from fun W h => by
    have hb := M2.out.below h (by omega)
    exact ⟨(hb.cell 0).trans rfl, (hb.cell 1).trans rfl, (hb.cell 2).trans rfl, (hb.cell 3).trans rfl, (hb.cell 4).trans rfl, (hb.cell 5).trans rfl⟩)
  have HI := hidm_ (show ∀ W, Below (g + 2) w2 W → W.cell? ⟨g, 6, none⟩ = some (.string (strOf K)) ∧ W.cell? ⟨g, 7, none⟩ = some (.string (strOf S)) ∧ W.cell? ⟨g, 8, none⟩ = some (.slice A1 nX c1) ∧ W.cell? ⟨g, 9, none⟩ = some (.slice A2 nD c2) ∧ W.cell? ⟨g, 10, none⟩ = some (.slice A3 nR c3) from fun W h => by
    have hb := M2.out.below h (by omega)
    rw [← hnX, ← hnD, ← hnR]
    exact ⟨(hb.cell 6).trans rfl, (hb.cell 7).trans rfl, (hb.cell 8).trans rfl, (hb.cell 9).trans rfl, (hb.cell 10).trans rfl⟩)
  have RX := hidm_ (show ∀ W, Below (g + 2) w2 W → RdG intE W g A1 xs from fun W h => (HQ.out.ats.below X2.out).below (h.mono (by omega)))
  have hz := zMsg
  clear hq hnX hnD hnR hnS B1 B2 h32 hRS
  go_enter Try.func8, Try.ntmps8
  go_upto_region 1 with fail
  rename_i K9 hK9
  clear hw1 hw2 S1 hg
  refine region_byJF [6, 7, 8, 9, 10, 11, 12, 13, 14, 15, 16, 17, 18, 19, 20, 21, 22, 23, 24, 25, 26, 27, 28, 29, 30, 31, 3] (fun _ => True) (fun w w' => StT [41] (g + 2) w w') (fun jR_ vR_ (wR_ : World) => (match jR_ with | 0 => vR_ = .pointer (some ⟨g, 0, none⟩) | 1 => vR_ = .int .i64 kd | 2 => vR_ = .pointer (some ⟨g, 1, none⟩) | 3 => vR_ = .int .i64 fr | 4 => vR_ = .pointer (some ⟨g, 2, none⟩) | 5 => vR_ = .int .i64 ak | 6 => vR_ = .pointer (some ⟨g, 3, none⟩) | 7 => vR_ = .int .i64 er | 8 => vR_ = .pointer (some ⟨g, 4, none⟩) | 9 => vR_ = .int .i64 fo | 10 => vR_ = .pointer (some ⟨g, 5, none⟩) | 11 => vR_ = .int .i64 lv | 12 => vR_ = .pointer (some ⟨g, 6, none⟩) | 13 => vR_ = .pointer (some ⟨g, 6, none⟩) | 14 => vR_ = .string (strOf K) | 15 => vR_ = .agg (rowOf K) | 16 => vR_ = .pointer (some ⟨g, 6, none⟩) | 17 => vR_ = .pointer (some ⟨g, 7, none⟩) | 18 => vR_ = .string (strOf S) | 19 => ∃ A7 c7, vR_ = .slice A7 nS c7 ∧ OwnT wR_ (g + 2) (.slice A7 nS c7) S | 20 => ∃ A7 c7, vR_ = .agg (krC ⟨⟨K, S⟩, A7, c7⟩).toArray ∧ OwnT wR_ (g + 2) (.slice A7 nS c7) S | 21 => ∃ b, vR_ = .slice (some ⟨b, 0, none⟩) 0 0 ∧ OwnG intE 3 wR_ (g + 2) (.slice (some ⟨b, 0, none⟩) 0 0) [] | 22 => vR_ = .pointer (some ⟨g, 8, none⟩) | 23 => vR_ = .slice A1 nX c1 | 24 => ∃ B8 d8, vR_ = .slice B8 nX d8 ∧ OwnG intE 3 wR_ (g + 2) (.slice B8 nX d8) xs | 25 => ∃ A7 c7 B8 d8, vR_ = .agg (mgC (⟨kd, fr, ak, er, fo, lv, ⟨⟨K, S⟩, A7, c7⟩, xs, B8, d8, [], none, 0, [], none, 0⟩ : MgA)).toArray ∧ OwnT wR_ (g + 2) (.slice A7 nS c7) S ∧ OwnG intE 3 wR_ (g + 2) (.slice B8 nX d8) xs | _ => True)) (fun D a W => BxJ 26 27 3 41 (mgC mgZ).toArray (g + 2) w2 (fun b W => ∃ A7 c7 B8 d8, Bk W b 41 (mgC (⟨kd, fr, ak, er, fo, lv, ⟨⟨K, S⟩, A7, c7⟩, xs, B8, d8, [], none, 0, [], none, 0⟩ : MgA)).toArray ∧ OwnT W (g + 2) (.slice A7 nS c7) S ∧ OwnG intE 3 W (g + 2) (.slice B8 nX d8) xs) D a W) (by kernel_rfl) (by kernel_rfl) (by kernel_rfl) (by kernel_rfl) (fun j v w w' hT hr => (by rcases j with _ | _ | _ | _ | _ | _ | _ | _ | _ | _ | _ | _ | _ | _ | _ | _ | _ | _ | _ | _ | _ | _ | _ | _ | _ | _ | _ | _ | j <;> first | exact hr | (obtain ⟨x1, x2, h1, h2⟩ := hr; exact ⟨x1, x2, h1, h2.st hT (Nat.le_refl _) (by decide)⟩) | (obtain ⟨x1, h1, h2⟩ := hr; exact ⟨x1, h1, h2.st hT (Nat.le_refl _) (by decide)⟩) | (obtain ⟨x1, x2, x3, x4, h1, h2, h3⟩ := hr; exact ⟨x1, x2, x3, x4, h1, h2.st hT (Nat.le_refl _) (by decide), h3.st hT (Nat.le_refl _) (by decide)⟩))) (fun j v w hlt hj _ => ?_) trivial ?_ (BxJ.start (below_drewN (Below.refl _ _) 1) (by rw [← S2.out]; exact Nat.le_refl _)) ?_
  · rcases j with _ | _ | _ | _ | _ | _ | _ | _ | _ | _ | _ | _ | _ | _ | _ | _ | _ | _ | _ | _ | _ | _ | _ | _ | _ | _ | _ | _ | j
    all_goals first
      | (exfalso; simp [dstOf] at hj; done)
      | trivial
  · refine ⟨fun D a9 W hC hd hsz hf hv hJ hL hW K8 hK => ?_, fun D a9 W hC hd hsz hf hv hJ hL hW K8 hK => ?_, fun D a9 W hC hd hsz hf hv hJ hL hW K8 hK => ?_, fun D a9 W hC hd hsz hf hv hJ hL hW K8 hK => ?_, fun D a9 W hC hd hsz hf hv hJ hL hW K8 hK => ?_, fun D a9 W hC hd hsz hf hv hJ hL hW K8 hK => ?_, fun D a9 W hC hd hsz hf hv hJ hL hW K8 hK => ?_, fun D a9 W hC hd hsz hf hv hJ hL hW K8 hK => ?_, fun D a9 W hC hd hsz hf hv hJ hL hW K8 hK => ?_, fun D a9 W hC hd hsz hf hv hJ hL hW K8 hK => ?_, fun D a9 W hC hd hsz hf hv hJ hL hW K8 hK => ?_, fun D a9 W hC hd hsz hf hv hJ hL hW K8 hK => ?_, fun D a9 W hC hd hsz hf hv hJ hL hW K8 hK => ?_, fun D a9 W hC hd hsz hf hv hJ hL hW K8 hK => ?_, fun D a9 W hC hd hsz hf hv hJ hL hW K8 hK => ?_, fun D a9 W hC hd hsz hf hv hJ hL hW K8 hK => ?_, fun D a9 W hC hd hsz hf hv hJ hL hW K8 hK => ?_, fun D a9 W hC hd hsz hf hv hJ hL hW K8 hK => ?_, fun D a9 W hC hd hsz hf hv hJ hL hW K8 hK => ?_, fun D a9 W hC hd hsz hf hv hJ hL hW K8 hK => ?_, fun D a9 W hC hd hsz hf hv hJ hL hW K8 hK => ?_, fun D a9 W hC hd hsz hf hv hJ hL hW K8 hK => ?_, fun D a9 W hC hd hsz hf hv hJ hL hW K8 hK => ?_, fun D a9 W hC hd hsz hf hv hJ hL hW K8 hK => ?_, fun D a9 W hC hd hsz hf hv hJ hL hW K8 hK => ?_, fun D a9 W hC hd hsz hf hv hJ hL hW K8 hK => ?_, fun D a9 W hC hd hsz hf hv hJ hL hW K8 hK => ?_, fun D a9 W hC hd hsz hf hv hJ hL hW K8 hK => ?_, trivial⟩
    · clear hsz
      have eS1_ := slot_of (a := a9) (s := 1) (v := .pointer (some ⟨g, 0, none⟩)) (hf 1 (by kernel_rfl))
      refine step_run (wanted_none rfl) (v := .pointer (some ⟨g, 0, none⟩)) (w' := W) ?_ (hK _ _ trivial (StT.refl _ _ _) rfl (hJ.same 0 (by decide) (by decide) hL (by decide) _ (Below.refl _ _)))
      go_simp
    · clear hsz
      have eS1_ := slot_of (a := a9) (s := 6) (v := .pointer (some ⟨g, 0, none⟩)) (hv 0 (by kernel_rfl))
      obtain ⟨l0, l1, l2, l3, l4, l5⟩ := LO.out W hJ.bel
      refine step_run (wanted_none rfl) (v := .int .i64 kd) (w' := W) ?_ (hK _ _ trivial (StT.refl _ _ _) rfl (hJ.same 1 (by decide) (by decide) hL (by decide) _ (Below.refl _ _)))
      go_simp
    · clear hsz
      have eS1_ := slot_of (a := a9) (s := 1) (v := .pointer (some ⟨g, 0, none⟩)) (hf 1 (by kernel_rfl))
      refine step_run (wanted_none rfl) (v := .pointer (some ⟨g, 1, none⟩)) (w' := W) ?_ (hK _ _ trivial (StT.refl _ _ _) rfl (hJ.same 2 (by decide) (by decide) hL (by decide) _ (Below.refl _ _)))
      go_simp
    · clear hsz
      have eS1_ := slot_of (a := a9) (s := 8) (v := .pointer (some ⟨g, 1, none⟩)) (hv 2 (by kernel_rfl))
      obtain ⟨l0, l1, l2, l3, l4, l5⟩ := LO.out W hJ.bel
      refine step_run (wanted_none rfl) (v := .int .i64 fr) (w' := W) ?_ (hK _ _ trivial (StT.refl _ _ _) rfl (hJ.same 3 (by decide) (by decide) hL (by decide) _ (Below.refl _ _)))
      go_simp
    · clear hsz
      have eS1_ := slot_of (a := a9) (s := 1) (v := .pointer (some ⟨g, 0, none⟩)) (hf 1 (by kernel_rfl))
      refine step_run (wanted_none rfl) (v := .pointer (some ⟨g, 2, none⟩)) (w' := W) ?_ (hK _ _ trivial (StT.refl _ _ _) rfl (hJ.same 4 (by decide) (by decide) hL (by decide) _ (Below.refl _ _)))
      go_simp
    · clear hsz
      have eS1_ := slot_of (a := a9) (s := 10) (v := .pointer (some ⟨g, 2, none⟩)) (hv 4 (by kernel_rfl))
      obtain ⟨l0, l1, l2, l3, l4, l5⟩ := LO.out W hJ.bel
      refine step_run (wanted_none rfl) (v := .int .i64 ak) (w' := W) ?_ (hK _ _ trivial (StT.refl _ _ _) rfl (hJ.same 5 (by decide) (by decide) hL (by decide) _ (Below.refl _ _)))
      go_simp
    · clear hsz
      have eS1_ := slot_of (a := a9) (s := 1) (v := .pointer (some ⟨g, 0, none⟩)) (hf 1 (by kernel_rfl))
      refine step_run (wanted_none rfl) (v := .pointer (some ⟨g, 3, none⟩)) (w' := W) ?_ (hK _ _ trivial (StT.refl _ _ _) rfl (hJ.same 6 (by decide) (by decide) hL (by decide) _ (Below.refl _ _)))
      go_simp
    · clear hsz
      have eS1_ := slot_of (a := a9) (s := 12) (v := .pointer (some ⟨g, 3, none⟩)) (hv 6 (by kernel_rfl))
      obtain ⟨l0, l1, l2, l3, l4, l5⟩ := LO.out W hJ.bel
      refine step_run (wanted_none rfl) (v := .int .i64 er) (w' := W) ?_ (hK _ _ trivial (StT.refl _ _ _) rfl (hJ.same 7 (by decide) (by decide) hL (by decide) _ (Below.refl _ _)))
      go_simp
    · clear hsz
      have eS1_ := slot_of (a := a9) (s := 1) (v := .pointer (some ⟨g, 0, none⟩)) (hf 1 (by kernel_rfl))
      refine step_run (wanted_none rfl) (v := .pointer (some ⟨g, 4, none⟩)) (w' := W) ?_ (hK _ _ trivial (StT.refl _ _ _) rfl (hJ.same 8 (by decide) (by decide) hL (by decide) _ (Below.refl _ _)))
      go_simp
    · clear hsz
      have eS1_ := slot_of (a := a9) (s := 14) (v := .pointer (some ⟨g, 4, none⟩)) (hv 8 (by kernel_rfl))
      obtain ⟨l0, l1, l2, l3, l4, l5⟩ := LO.out W hJ.bel
      refine step_run (wanted_none rfl) (v := .int .i64 fo) (w' := W) ?_ (hK _ _ trivial (StT.refl _ _ _) rfl (hJ.same 9 (by decide) (by decide) hL (by decide) _ (Below.refl _ _)))
      go_simp
    · clear hsz
      have eS1_ := slot_of (a := a9) (s := 1) (v := .pointer (some ⟨g, 0, none⟩)) (hf 1 (by kernel_rfl))
      refine step_run (wanted_none rfl) (v := .pointer (some ⟨g, 5, none⟩)) (w' := W) ?_ (hK _ _ trivial (StT.refl _ _ _) rfl (hJ.same 10 (by decide) (by decide) hL (by decide) _ (Below.refl _ _)))
      go_simp
    · clear hsz
      have eS1_ := slot_of (a := a9) (s := 16) (v := .pointer (some ⟨g, 5, none⟩)) (hv 10 (by kernel_rfl))
      obtain ⟨l0, l1, l2, l3, l4, l5⟩ := LO.out W hJ.bel
      refine step_run (wanted_none rfl) (v := .int .i64 lv) (w' := W) ?_ (hK _ _ trivial (StT.refl _ _ _) rfl (hJ.same 11 (by decide) (by decide) hL (by decide) _ (Below.refl _ _)))
      go_simp
    · clear hsz
      have eS1_ := slot_of (a := a9) (s := 1) (v := .pointer (some ⟨g, 0, none⟩)) (hf 1 (by kernel_rfl))
      refine step_run (wanted_none rfl) (v := .pointer (some ⟨g, 6, none⟩)) (w' := W) ?_ (hK _ _ trivial (StT.refl _ _ _) rfl (hJ.same 12 (by decide) (by decide) hL (by decide) _ (Below.refl _ _)))
      go_simp
    · clear hsz
      have eS1_ := slot_of (a := a9) (s := 18) (v := .pointer (some ⟨g, 6, none⟩)) (hv 12 (by kernel_rfl))
      refine step_run (wanted_none rfl) (v := .pointer (some ⟨g, 6, none⟩)) (w' := W) ?_ (hK _ _ trivial (StT.refl _ _ _) rfl (hJ.same 13 (by decide) (by decide) hL (by decide) _ (Below.refl _ _)))
      go_simp
    · clear hsz
      have eS1_ := slot_of (a := a9) (s := 19) (v := .pointer (some ⟨g, 6, none⟩)) (hv 13 (by kernel_rfl))
      obtain ⟨l6, l7, l8, l9, l10⟩ := HI.out W hJ.bel
      refine step_run (wanted_none rfl) (v := .string (strOf K)) (w' := W) ?_ (hK _ _ trivial (StT.refl _ _ _) rfl (hJ.same 14 (by decide) (by decide) hL (by decide) _ (Below.refl _ _)))
      go_simp
    · clear hsz
      have eS1_ := slot_of (a := a9) (s := 20) (v := .string (strOf K)) (hv 14 (by kernel_rfl))
      refine step_callx 25 #[.string (strOf K)] (wanted_none rfl) (w' := W) ?_ ((blind_any W K).mono fun e W2 hh => ?_)
      · go_simp
      · obtain ⟨rfl, hB⟩ := hh
        rw [pad32_id KL.out]
        exact ⟨_, rfl, hK _ _ trivial (StT.of_below _ _ hB (Nat.le_refl _)) rfl (hJ.same 15 (by decide) (by decide) hL (by decide) _ hB)⟩
    · clear hsz
      have eS1_ := slot_of (a := a9) (s := 1) (v := .pointer (some ⟨g, 0, none⟩)) (hf 1 (by kernel_rfl))
      refine step_run (wanted_none rfl) (v := .pointer (some ⟨g, 6, none⟩)) (w' := W) ?_ (hK _ _ trivial (StT.refl _ _ _) rfl (hJ.same 16 (by decide) (by decide) hL (by decide) _ (Below.refl _ _)))
      go_simp
    · clear hsz
      have eS1_ := slot_of (a := a9) (s := 22) (v := .pointer (some ⟨g, 6, none⟩)) (hv 16 (by kernel_rfl))
      refine step_run (wanted_none rfl) (v := .pointer (some ⟨g, 7, none⟩)) (w' := W) ?_ (hK _ _ trivial (StT.refl _ _ _) rfl (hJ.same 17 (by decide) (by decide) hL (by decide) _ (Below.refl _ _)))
      go_simp
    · clear hsz
      have eS1_ := slot_of (a := a9) (s := 23) (v := .pointer (some ⟨g, 7, none⟩)) (hv 17 (by kernel_rfl))
      obtain ⟨l6, l7, l8, l9, l10⟩ := HI.out W hJ.bel
      refine step_run (wanted_none rfl) (v := .string (strOf S)) (w' := W) ?_ (hK _ _ trivial (StT.refl _ _ _) rfl (hJ.same 18 (by decide) (by decide) hL (by decide) _ (Below.refl _ _)))
      go_simp
    · clear hsz
      have eS1_ := slot_of (a := a9) (s := 24) (v := .string (strOf S)) (hv 18 (by kernel_rfl))
      refine step_bytesT (base := g + 2) (wanted_none rfl) (.tmp 24) rfl S (eval_of (hv 18 (by kernel_rfl))) hJ.siz (by rw [HNS.out]; unfold maxLen; omega) ?_
      intro A7 c7 W2 o7 hB
      rw [HNS.out] at o7 ⊢
      exact hK _ _ trivial (StT.of_below _ _ hB (Nat.le_refl _)) ⟨A7, c7, rfl, o7⟩ (hJ.same 19 (by decide) (by decide) hL (by decide) _ hB)
    · clear hsz
      have eS1_ := slot_of (a := a9) (s := 21) (v := .agg (rowOf K)) (hv 15 (by kernel_rfl))
      obtain ⟨A7, c7, h25, o7⟩ := hv 19 (by kernel_rfl)
      have eB_ := eval_of (a := a9) (s := 25) h25
      have eA_ := eval_of (a := a9) (s := 21) (v := .agg (rowOf K)) (hv 15 (by kernel_rfl))
      refine step_builtM (wanted_none rfl) 37 #[(0, .tmp 21), (1, .tmp 25)] rfl (krC ⟨⟨K, S⟩, A7, c7⟩).toArray ?_ ?_
      · simp only [List.map_toArray, List.map_cons, List.map_nil, eA_, eB_]
        exact builtKr K S KL.out A7 nS c7 HNS.out
      · exact hK _ _ trivial (StT.refl _ _ _) ⟨A7, c7, rfl, o7⟩ (hJ.same 20 (by decide) (by decide) hL (by decide) _ (Below.refl _ _))
    · clear hsz
      refine step_run (wanted_none rfl) (v := .slice (some ⟨W.heap.size, 0, none⟩) 0 0) (w' := W.alloc (.cells #[] 3)) ?_ (hK _ _ trivial (StT.of_below _ _ ((Below.refl _ _).alloc (Nat.le_refl _) _) (Nat.le_refl _)) ⟨W.heap.size, rfl, rfl, .inr ⟨W.heap.size, 0, #[], rfl, hJ.siz, Bk.new W _ _, Nat.le_refl _, by decide, rfl, rfl⟩⟩ (hJ.same 21 (by decide) (by decide) hL (by decide) _ ((Below.refl _ _).alloc (Nat.le_refl _) _)))
      go_simp
    · clear hsz
      have eS1_ := slot_of (a := a9) (s := 1) (v := .pointer (some ⟨g, 0, none⟩)) (hf 1 (by kernel_rfl))
      refine step_run (wanted_none rfl) (v := .pointer (some ⟨g, 8, none⟩)) (w' := W) ?_ (hK _ _ trivial (StT.refl _ _ _) rfl (hJ.same 22 (by decide) (by decide) hL (by decide) _ (Below.refl _ _)))
      go_simp
    · clear hsz
      have eS1_ := slot_of (a := a9) (s := 28) (v := .pointer (some ⟨g, 8, none⟩)) (hv 22 (by kernel_rfl))
      obtain ⟨l6, l7, l8, l9, l10⟩ := HI.out W hJ.bel
      refine step_run (wanted_none rfl) (v := .slice A1 nX c1) (w' := W) ?_ (hK _ _ trivial (StT.refl _ _ _) rfl (hJ.same 23 (by decide) (by decide) hL (by decide) _ (Below.refl _ _)))
      go_simp
    · clear hsz
      have eS1_ := slot_of (a := a9) (s := 29) (v := .slice A1 nX c1) (hv 23 (by kernel_rfl))
      obtain ⟨b, h27, o27⟩ := hv 21 (by kernel_rfl)
      refine step_app0G (wanted_none rfl) (.tmp 27) (.tmp 29) rfl Try.underlying24 infoInt b o27 (eval_of h27) nX c1 (eval_of (hv 23 (by kernel_rfl))) (RX.out W hJ.bel) HNX.out (by omega) (by decide) hJ.siz ?_
      intro B8 d8 W2 o8 hB
      exact hK _ _ trivial (StT.of_below _ _ hB (Nat.le_refl _)) ⟨B8, d8, rfl, o8⟩ (hJ.same 24 (by decide) (by decide) hL (by decide) _ hB)
    · clear hsz
      have eS1_ := slot_of (a := a9) (s := 7) (v := .int .i64 kd) (hv 1 (by kernel_rfl))
      have eS2_ := slot_of (a := a9) (s := 9) (v := .int .i64 fr) (hv 3 (by kernel_rfl))
      have eS3_ := slot_of (a := a9) (s := 11) (v := .int .i64 ak) (hv 5 (by kernel_rfl))
      have eS4_ := slot_of (a := a9) (s := 13) (v := .int .i64 er) (hv 7 (by kernel_rfl))
      have eS5_ := slot_of (a := a9) (s := 15) (v := .int .i64 fo) (hv 9 (by kernel_rfl))
      have eS6_ := slot_of (a := a9) (s := 17) (v := .int .i64 lv) (hv 11 (by kernel_rfl))
      obtain ⟨A7, c7, h26, o7⟩ := hv 20 (by kernel_rfl)
      obtain ⟨B8, d8, h30, o8⟩ := hv 24 (by kernel_rfl)
      have f7 := eval_of (a := a9) (s := 7) (v := .int .i64 kd) (hv 1 (by kernel_rfl))
      have f9 := eval_of (a := a9) (s := 9) (v := .int .i64 fr) (hv 3 (by kernel_rfl))
      have f11 := eval_of (a := a9) (s := 11) (v := .int .i64 ak) (hv 5 (by kernel_rfl))
      have f13 := eval_of (a := a9) (s := 13) (v := .int .i64 er) (hv 7 (by kernel_rfl))
      have f15 := eval_of (a := a9) (s := 15) (v := .int .i64 fo) (hv 9 (by kernel_rfl))
      have f17 := eval_of (a := a9) (s := 17) (v := .int .i64 lv) (hv 11 (by kernel_rfl))
      have f26 := eval_of (a := a9) (s := 26) h26
      have f30 := eval_of (a := a9) (s := 30) h30
      refine step_builtM (wanted_none rfl) 41 #[(0, .tmp 7), (1, .tmp 9), (2, .tmp 11), (3, .tmp 13), (4, .tmp 15), (5, .tmp 17), (6, .tmp 26), (7, .tmp 30)] rfl (mgC (⟨kd, fr, ak, er, fo, lv, ⟨⟨K, S⟩, A7, c7⟩, xs, B8, d8, [], none, 0, [], none, 0⟩ : MgA)).toArray ?_ ?_
      · simp only [List.map_toArray, List.map_cons, List.map_nil, f7, f9, f11, f13, f15, f17, f26, f30]
        exact builtMg K S KL.out A7 c7 kd fr ak er fo lv xs B8 nX d8 HNX.out
      · exact hK _ _ trivial (StT.refl _ _ _) ⟨A7, c7, B8, d8, rfl, o7, o8⟩ (hJ.same 25 (by decide) (by decide) hL (by decide) _ (Below.refl _ _))
    · skip
      have hsz9 : 3 < a9.tmps.size := by rw [hsz]; exact (by decide : 3 < 78)
      have hz := zMsg
      refine step_run (wanted_none rfl) (v := .pointer (some ⟨W.heap.size, 0, none⟩)) (w' := W.alloc (.cells (mgC mgZ).toArray 41)) ?_ (hK _ _ trivial (StT.of_below _ _ ((Below.refl _ _).alloc (Nat.le_refl _) _) (Nat.le_refl _)) trivial (hJ.alloc (by decide) hL hsz9))
      go_simp
    · clear hsz
      have hall : ∀ j, j < 27 → D j = true := fun j hj => by rcases j with _ | _ | _ | _ | _ | _ | _ | _ | _ | _ | _ | _ | _ | _ | _ | _ | _ | _ | _ | _ | _ | _ | _ | _ | _ | _ | _ | j <;> first | omega | exact hW _ (by kernel_rfl)
      obtain ⟨A7, c7, B8, d8, h31, o7, o8⟩ := hv 25 (by kernel_rfl)
      obtain ⟨b, h3, hb1, hb2⟩ := hJ.fresh (hall 26 (by decide)) hL
      refine step_store_rowX (wanted_none rfl) 41 (.tmp 3) (.tmp 31) rfl b (mgC (⟨kd, fr, ak, er, fo, lv, ⟨⟨K, S⟩, A7, c7⟩, xs, B8, d8, [], none, 0, [], none, 0⟩ : MgA)).toArray (eval_of h3) (eval_of h31) 41 (mgC mgZ).toArray hb2 (i42 _ KL.out) (by rw [List.size_toArray, List.size_toArray, mgC_len _ (zbytes_len 32), mgC_len _ KL.out]) (mgC_one _) ?_
      have g9 : W.grownBy (W.setRow b (mgC (⟨kd, fr, ak, er, fo, lv, ⟨⟨K, S⟩, A7, c7⟩, xs, B8, d8, [], none, 0, [], none, 0⟩ : MgA)).toArray) (some b) := grown_row (World.grownBy.refl W _) _
      have st9 := StT.of_grown (ts := [41]) (g := g + 2) g9 hb2 (by simp)
      exact hK undef _ trivial st9 trivial (hJ.store hall h3 hb1 ((Below.refl (g + 2) W).grown g9 hJ.siz (fun k hk => by injection hk with hk; omega)) ⟨A7, c7, B8, d8, hb2.rowed _, o7.st st9 (Nat.le_refl _) (by decide), o8.st st9 (Nat.le_refl _) (by decide)⟩ undef)
  · intro f9 w6 hC6 hv6 D6 hD6 hJ6
    obtain ⟨a6, hJ, hf6⟩ := hJ6
    obtain ⟨gp, e3, hgp, A7, c7, B8, d8, hb7, o7, o8⟩ := hJ.done (hD6 27 (by decide))
    rw [hf6 3] at e3
    have GP := hidm_ hgp
    have PB := hidm_ hb7
    have O7 := hidm_ o7
    have O8 := hidm_ o8
    have BB := hidm_ hJ.bel
    have SB := hidm_ hJ.siz
    clear hv6 hD6 hC6 hJ hf6 hgp hb7 o7 o8
    simp only [framed, List.foldl_cons, List.foldl_nil, List.setIfInBounds_toArray, List.set_cons_succ, List.set_cons_zero]
    rw [e3]
    clear e3
    refine hK9 _ _ ?_
    clear hK9 hz
    go_wp2
    go_loopw [4] (fun i wr => ∃ (k : Nat) (L : List (List UInt8)) (Ad : Option Addr) (cd : Nat), i = .int .i64 k ∧ k ≤ nD ∧ Hid (L.length = k) ∧ Hid (L = ds.take k) ∧ Hid (OwnG digE 34 wr (g + 2) (.slice Ad k cd) L) ∧ Hid (Bk wr gp 41 (mgC (⟨kd, fr, ak, er, fo, lv, ⟨⟨K, S⟩, A7, c7⟩, xs, B8, d8, L, Ad, cd, [], none, 0⟩ : MgA)).toArray) ∧ Hid (StT [34, 41] (g + 2) w6 wr) ∧ Hid (Below (g + 2) w2 wr) ∧ Hid (g + 2 ≤ wr.heap.size)) (fun i _ => nD - (intOf i).toNat)
    case atStart => exact ⟨0, [], none, 0, rfl, Nat.zero_le _, hidm_ rfl, hidm_ rfl, hidm_ (OwnG.nil_ _ _ _), PB, hidm_ (StT.refl _ _ _), BB, SB⟩
    case round =>
      obtain ⟨k, L, Ad, cd, rfl, hk, LK, LE, HO, HP, HST, HBW, HSZ⟩ := hrel
      clear PB BB SB
      obtain ⟨l6, l7, l8, l9, l10⟩ := HI.out wr HBW.out
      by_cases hlt : k < nD
      · have tl : (k : Int) < (nD : Int) := by omega
        have hlk : k < ds.length := by rw [HND.out]; exact hlt
        go_upto_region 5 with fail
        rename_i K7 hK7
        clear l6 l7 l8 l9 l10
        obtain ⟨bb, off, hA, hbl, hcb⟩ := HQ.out.digs (show 0 < ds.length by omega)
        have hA : A2 = some ⟨bb, off, none⟩ := hA
        have DA := hidm_ hA
        have HZM := hidm_ (List.getElem_mem hlk)
        obtain ⟨z, hz9⟩ : ∃ z, ds[k] = z := ⟨_, rfl⟩
        rw [hz9] at HZM
        have LE2 := hidm_ (show L ++ [z] = ds.take (k + 1) by rw [LE.out, List.take_succ_eq_append_getElem hlk, hz9])
        have ZL := hidm_ (DL.out z HZM.out)
        have EZ := hidm_ (show ∀ W, Below (g + 2) w2 W → W.cell? ⟨bb, off + k, none⟩ = some (.string (strOf z)) from fun W h => (h.cell (p := ⟨bb, _, none⟩) (show bb < g + 2 by omega)).trans ((X2.out.cell (p := ⟨bb, _, none⟩) hbl).trans (by have hx := hcb k hlk 0 (by decide); rw [hz9] at hx; rw [show off + k = off + k * 1 + 0 by omega]; exact hx)))
        have CB := hidm_ (show ∀ W, Below wr.heap.size wr W → W.cell? ⟨gp, 40, none⟩ = some (.slice Ad k cd) from fun W h => by
          have hx := ((HP.out.below h HP.out.lt).cell 40).trans (mgC_hi (⟨kd, fr, ak, er, fo, lv, ⟨⟨K, S⟩, A7, c7⟩, xs, B8, d8, L, Ad, cd, [], none, 0⟩ : MgA) KL.out 1)
          simpa [LK.out] using hx)
        clear hA hz9 hcb hlk
        refine region_byJF [39, 40, 41, 42, 43, 44, 45, 46, 47, 48, 49] (fun _ => True) (fun w w' => ∀ b, wr.heap.size ≤ b → b < w.heap.size → w'.heap[b]? = w.heap[b]?) (fun jR_ vR_ (wR_ : World) => (match jR_ with | 0 => vR_ = .pointer (some ⟨gp, 40, none⟩) | 1 => vR_ = .slice Ad k cd | 2 => vR_ = .pointer (some ⟨g, 9, none⟩) | 3 => vR_ = .slice (some ⟨bb, off, none⟩) nD c2 | 4 => vR_ = .int .i64 (k : Int) | 5 => vR_ = .pointer (some ⟨bb, off + k, none⟩) | 6 => vR_ = .string (strOf z) | 7 => vR_ = .agg (rowOf z) | 8 => ∃ b, vR_ = .slice (some ⟨b, 0, none⟩) 1 1 ∧ wr.heap.size ≤ b ∧ Bk wR_ b 34 (digE.c z).toArray | 10 => vR_ = .pointer (some ⟨gp, 40, none⟩) | _ => True)) (fun D a W => AcJ 9 11 48 [(9, 8), (9, 1), (8, 7)] (fun W => Below wr.heap.size wr W) (fun W => StT [34, 41] (g + 2) wr W ∧ Below (g + 2) w2 W ∧ g + 2 ≤ W.heap.size ∧ Bk W gp 41 (mgC (⟨kd, fr, ak, er, fo, lv, ⟨⟨K, S⟩, A7, c7⟩, xs, B8, d8, L, Ad, cd, [], none, 0⟩ : MgA)).toArray) (fun W => StT [34, 41] (g + 2) wr W ∧ Below (g + 2) w2 W ∧ g + 2 ≤ W.heap.size ∧ ∃ A8 c8, Bk W gp 41 (mgC (⟨kd, fr, ak, er, fo, lv, ⟨⟨K, S⟩, A7, c7⟩, xs, B8, d8, (L ++ [z]), A8, c8, [], none, 0⟩ : MgA)).toArray ∧ OwnG digE 34 W (g + 2) (.slice A8 (k + 1) c8) (L ++ [z])) (fun v W => ∃ A8 c8, v = (.slice A8 (k + 1) c8) ∧ OwnG digE 34 W (g + 2) v (L ++ [z])) D a W) (by kernel_rfl) (by kernel_rfl) (by kernel_rfl) (by kernel_rfl) (fun j v w w' hT hr => (by rcases j with _ | _ | _ | _ | _ | _ | _ | _ | _ | _ | _ | _ | j <;> first | exact hr | (obtain ⟨b, x1, x2, x3⟩ := hr; exact ⟨b, x1, x2, (hT b x2 x3.lt).trans x3⟩))) (fun j v w hlt hj _ => ?_) trivial ?_ (AcJ.start (below_drewN (Below.refl _ _) 1)) ?_
        · rcases j with _ | _ | _ | _ | _ | _ | _ | _ | _ | _ | _ | _ | j
          all_goals first
            | (exfalso; simp [dstOf] at hj; done)
            | trivial
        · refine ⟨fun D a9 W hC hd hsz hf hv hJ hL hW K8 hK => ?_, fun D a9 W hC hd hsz hf hv hJ hL hW K8 hK => ?_, fun D a9 W hC hd hsz hf hv hJ hL hW K8 hK => ?_, fun D a9 W hC hd hsz hf hv hJ hL hW K8 hK => ?_, fun D a9 W hC hd hsz hf hv hJ hL hW K8 hK => ?_, fun D a9 W hC hd hsz hf hv hJ hL hW K8 hK => ?_, fun D a9 W hC hd hsz hf hv hJ hL hW K8 hK => ?_, fun D a9 W hC hd hsz hf hv hJ hL hW K8 hK => ?_, fun D a9 W hC hd hsz hf hv hJ hL hW K8 hK => ?_, fun D a9 W hC hd hsz hf hv hJ hL hW K8 hK => ?_, fun D a9 W hC hd hsz hf hv hJ hL hW K8 hK => ?_, fun D a9 W hC hd hsz hf hv hJ hL hW K8 hK => ?_, trivial⟩
          · clear hsz
            have eS1_ := slot_of (a := a9) (s := 3) (v := .pointer (some ⟨gp, 0, none⟩)) (hf 3 (by kernel_rfl))
            refine step_run (wanted_none rfl) (v := .pointer (some ⟨gp, 40, none⟩)) (w' := W) ?_ (hK _ _ trivial (fun _ _ _ => rfl) rfl (hJ.same 0 (by decide) (by decide) (fun p hp e => by simp only [List.mem_cons, List.not_mem_nil, or_false] at hp; rcases hp with rfl | rfl | rfl <;> first | exact absurd e (by decide) | exact hW _ (by kernel_rfl)) (by decide) _))
            go_simp
          · clear hsz
            have eS1_ := slot_of (a := a9) (s := 39) (v := .pointer (some ⟨gp, 40, none⟩)) (hv 0 (by kernel_rfl))
            have hn9 := hJ.no 9 1 (by decide) hL
            have hc9 := CB.out W (hJ.s0 hn9)
            refine step_run (wanted_none rfl) (v := .slice Ad k cd) (w' := W) ?_ (hK _ _ trivial (fun _ _ _ => rfl) rfl (hJ.same 1 (by decide) (by decide) (fun p hp e => by simp only [List.mem_cons, List.not_mem_nil, or_false] at hp; rcases hp with rfl | rfl | rfl <;> first | exact absurd e (by decide) | exact hW _ (by kernel_rfl)) (by decide) _))
            go_simp
          · clear hsz
            have eS1_ := slot_of (a := a9) (s := 1) (v := .pointer (some ⟨g, 0, none⟩)) (hf 1 (by kernel_rfl))
            refine step_run (wanted_none rfl) (v := .pointer (some ⟨g, 9, none⟩)) (w' := W) ?_ (hK _ _ trivial (fun _ _ _ => rfl) rfl (hJ.same 2 (by decide) (by decide) (fun p hp e => by simp only [List.mem_cons, List.not_mem_nil, or_false] at hp; rcases hp with rfl | rfl | rfl <;> first | exact absurd e (by decide) | exact hW _ (by kernel_rfl)) (by decide) _))
            go_simp
          · clear hsz
            have eS1_ := slot_of (a := a9) (s := 41) (v := .pointer (some ⟨g, 9, none⟩)) (hv 2 (by kernel_rfl))
            have hb9 : Below (g + 2) w2 W := hJ.any (fun h => HBW.out.trans (h.mono HSZ.out)) (fun h => h.2.1) (fun h => h.2.1)
            obtain ⟨l6, l7, l8, l9, l10⟩ := HI.out W hb9
            rw [DA.out] at l9
            refine step_run (wanted_none rfl) (v := .slice (some ⟨bb, off, none⟩) nD c2) (w' := W) ?_ (hK _ _ trivial (fun _ _ _ => rfl) rfl (hJ.same 3 (by decide) (by decide) (fun p hp e => by simp only [List.mem_cons, List.not_mem_nil, or_false] at hp; rcases hp with rfl | rfl | rfl <;> first | exact absurd e (by decide) | exact hW _ (by kernel_rfl)) (by decide) _))
            go_simp
          · clear hsz
            have eS1_ := slot_of (a := a9) (s := 4) (v := .int .i64 (k : Int)) (hf 4 (by kernel_rfl))
            refine step_run (wanted_none rfl) (v := .int .i64 (k : Int)) (w' := W) ?_ (hK _ _ trivial (fun _ _ _ => rfl) rfl (hJ.same 4 (by decide) (by decide) (fun p hp e => by simp only [List.mem_cons, List.not_mem_nil, or_false] at hp; rcases hp with rfl | rfl | rfl <;> first | exact absurd e (by decide) | exact hW _ (by kernel_rfl)) (by decide) _))
            go_simp
          · clear hsz
            have eS1_ := slot_of (a := a9) (s := 42) (v := .slice (some ⟨bb, off, none⟩) nD c2) (hv 3 (by kernel_rfl))
            have eS2_ := slot_of (a := a9) (s := 43) (v := .int .i64 (k : Int)) (hv 4 (by kernel_rfl))
            refine step_run (wanted_none rfl) (v := .pointer (some ⟨bb, off + k, none⟩)) (w' := W) ?_ (hK _ _ trivial (fun _ _ _ => rfl) rfl (hJ.same 5 (by decide) (by decide) (fun p hp e => by simp only [List.mem_cons, List.not_mem_nil, or_false] at hp; rcases hp with rfl | rfl | rfl <;> first | exact absurd e (by decide) | exact hW _ (by kernel_rfl)) (by decide) _))
            go_simp
          · clear hsz
            have eS1_ := slot_of (a := a9) (s := 44) (v := .pointer (some ⟨bb, off + k, none⟩)) (hv 5 (by kernel_rfl))
            have hb9 : Below (g + 2) w2 W := hJ.any (fun h => HBW.out.trans (h.mono HSZ.out)) (fun h => h.2.1) (fun h => h.2.1)
            have hc9 := EZ.out W hb9
            refine step_run (wanted_none rfl) (v := .string (strOf z)) (w' := W) ?_ (hK _ _ trivial (fun _ _ _ => rfl) rfl (hJ.same 6 (by decide) (by decide) (fun p hp e => by simp only [List.mem_cons, List.not_mem_nil, or_false] at hp; rcases hp with rfl | rfl | rfl <;> first | exact absurd e (by decide) | exact hW _ (by kernel_rfl)) (by decide) _))
            go_simp
          · clear hsz
            have eS1_ := slot_of (a := a9) (s := 45) (v := .string (strOf z)) (hv 6 (by kernel_rfl))
            have hn8 := hJ.no 8 7 (by decide) hL
            have hn9 := hJ.no 9 8 (by decide) hn8
            refine step_callx 25 #[.string (strOf z)] (wanted_none rfl) (w' := W) ?_ ((blind_any W z).mono fun e W2 hh => ?_)
            · go_simp
            · obtain ⟨rfl, hB⟩ := hh
              rw [pad32_id ZL.out]
              exact ⟨_, rfl, hK _ _ trivial (fun b x1 x2 => hB.block b x2) rfl (hJ.low 7 hn9 (by decide) (by decide) (fun p hp e => by simp only [List.mem_cons, List.not_mem_nil, or_false] at hp; rcases hp with rfl | rfl | rfl <;> first | exact absurd e (by decide) | exact hW _ (by kernel_rfl)) (fun h => h.trans (hB.mono h.size)) _)⟩
          · clear hsz
            have eS1_ := slot_of (a := a9) (s := 46) (v := .agg (rowOf z)) (hv 7 (by kernel_rfl))
            have hn9 := hJ.no 9 8 (by decide) hL
            have hS0 := hJ.s0 hn9
            refine step_oneG digE Try.underlying38 infoDig (by decide) (wanted_none rfl) (.tmp 46) rfl (rowOf z) (eval_of (hv 7 (by kernel_rfl))) z (by show rowOf z = (rowOf (pad32 z)).toList.toArray; rw [pad32_id ZL.out]) ?_
            have hrz : rowOf z = (digE.c z).toArray := by show rowOf z = (rowOf (pad32 z)).toList.toArray; rw [pad32_id ZL.out]
            rw [hrz]
            have hB := (Below.refl W.heap.size W).alloc (Nat.le_refl _) (.cells (digE.c z).toArray 34)
            exact hK _ _ trivial (fun b x1 x2 => hB.block b x2) ⟨W.heap.size, rfl, hS0.size, Bk.new W _ _⟩ (hJ.low 8 hn9 (by decide) (by decide) (fun p hp e => by simp only [List.mem_cons, List.not_mem_nil, or_false] at hp; rcases hp with rfl | rfl | rfl <;> first | exact absurd e (by decide) | exact hW _ (by kernel_rfl)) (fun h => h.trans (hB.mono h.size)) _)
          · skip
            have eS1_ := slot_of (a := a9) (s := 40) (v := .slice Ad k cd) (hv 1 (by kernel_rfl))
            have hsz9 : 48 < a9.tmps.size := by rw [hsz]; exact (by decide : 48 < 78)
            have hS0 := hJ.s0 hL
            obtain ⟨b, h47, hb1, hb2⟩ := hv 8 (by kernel_rfl)
            have OW := HO.out.below hS0 (Nat.le_refl _)
            have hs9 : g + 2 ≤ W.heap.size := Nat.le_trans HSZ.out hS0.size
            have hbx := HP.out.below hS0 HP.out.lt
            refine step_appGg rfl (.tmp 40) (.tmp 47) rfl Try.underlying38 infoDig OW (eval_of (hv 1 (by kernel_rfl))) 1 1 (eval_of h47) (RdG.of_block (p := z) hb2 hb2.lt) rfl (by rw [LK.out]; omega) (by decide) hs9 ?_
            intro A8 c8 W2 k1 k2 k3
            rw [LK.out] at k1 k3 ⊢
            have st9 : StT [34, 41] (g + 2) W W2 := OW.grownSt k2 (by simp)
            exact hK _ _ trivial (fun b' x1 x2 => k2.block b' x2 (fun e => by have := (HO.out.lt b' e.symm).2; omega)) trivial (hJ.app hL (by decide) (fun p hp e => by simp only [List.mem_cons, List.not_mem_nil, or_false] at hp; rcases hp with rfl | rfl | rfl <;> first | exact absurd e (by decide) | exact hW _ (by kernel_rfl)) hsz9 ⟨(StT.of_below _ _ hS0 (Nat.le_refl _)).trans st9, (HBW.out.trans (hS0.mono HSZ.out)).grown k2 hs9 (fun j hj => (OW.lt j hj).1), Nat.le_trans hs9 k2.size, hbx.grown k2 (fun e => OW.type_ne hbx (by decide) e.symm)⟩ ⟨A8, c8, rfl, k1⟩)
          · clear hsz
            have eS1_ := slot_of (a := a9) (s := 3) (v := .pointer (some ⟨gp, 0, none⟩)) (hf 3 (by kernel_rfl))
            refine step_run (wanted_none rfl) (v := .pointer (some ⟨gp, 40, none⟩)) (w' := W) ?_ (hK _ _ trivial (fun _ _ _ => rfl) rfl (hJ.same 10 (by decide) (by decide) (fun p hp e => by simp only [List.mem_cons, List.not_mem_nil, or_false] at hp; rcases hp with rfl | rfl | rfl <;> first | exact absurd e (by decide) | exact hW _ (by kernel_rfl)) (by decide) _))
            go_simp
          · clear hsz
            have eS1_ := slot_of (a := a9) (s := 49) (v := .pointer (some ⟨gp, 40, none⟩)) (hv 10 (by kernel_rfl))
            have hd9 := hW 9 (by kernel_rfl)
            obtain ⟨⟨s1, s2, s3, s4⟩, A8, c8, h48, o48⟩ := hJ.s1 hd9 hL
            rw [h48] at o48
            have eS48 := slot_of (a := a9) (s := 48) h48
            have hcz := (s4.cell 40).trans (mgC_hi (⟨kd, fr, ak, er, fo, lv, ⟨⟨K, S⟩, A7, c7⟩, xs, B8, d8, L, Ad, cd, [], none, 0⟩ : MgA) KL.out 1)
            simp only [List.getElem?_cons_succ, List.getElem?_cons_zero, LK.out] at hcz
            have hfz := s4.frozen 40
            have u9 : Untouched [gp] W (W.setCell ⟨gp, 40, none⟩ (.slice A8 (k + 1) c8)) := Untouched.set gp 40 (by simp) _
            have st9 : StT [34, 41] (g + 2) W (W.setCell ⟨gp, 40, none⟩ (.slice A8 (k + 1) c8)) := ⟨u9.size, fun b cs u m _ hb hu => by rw [u9.block b (Array.getElem?_eq_some_iff.1 hb).1 (fun hm => by rw [List.mem_singleton.1 hm] at hb; have e4 : _ = some _ := s4; rw [e4] at hb; injection hb with hb; injection hb with _ hb _; exact hu (by simp [← hb]))]; exact hb⟩
            refine step_skip (wanted_none rfl) (w' := W.setCell ⟨gp, 40, none⟩ (.slice A8 (k + 1) c8)) ?_ (hK undef _ trivial (fun b x1 x2 => u9.block b x2 (fun hm => by rw [List.mem_singleton.1 hm] at x1; have := HP.out.lt; omega)) trivial (hJ.store hd9 (fun p hp e => by simp only [List.mem_cons, List.not_mem_nil, or_false] at hp; rcases hp with rfl | rfl | rfl <;> first | exact absurd e (by decide) | exact hW _ (by kernel_rfl)) ⟨s1.trans st9, s2.trans (u9.below (fun j hj => by rw [List.mem_singleton.1 hj]; exact GP.out) s3), Nat.le_trans s3 u9.size, ⟨A8, c8, by rw [← mgC_digs (⟨kd, fr, ak, er, fo, lv, ⟨⟨K, S⟩, A7, c7⟩, xs, B8, d8, L, Ad, cd, [], none, 0⟩ : MgA) KL.out (L ++ [z]) A8 (k + 1) c8 (by simp [LK.out])]; exact s4.set_ 40 _, o48.keep u9 (fun j hj hm => o48.type_ne s4 (by decide) (by rw [hj, List.mem_singleton.1 hm]))⟩⟩ _))
            go_simp
        · intro f9 w6 hC6 hv6 D6 hD6 hJ6
          obtain ⟨a6, hJ, hf6⟩ := hJ6
          obtain ⟨s1, s2, s3, A8, c8, hb8, o8⟩ := hJ.s2 (hD6 11 (by decide))
          have S6 := hidm_ s1
          have B6 := hidm_ s2
          have Z6 := hidm_ s3
          have P6 := hidm_ hb8
          have O6 := hidm_ o8
          clear hv6 hD6 hC6 hJ hf6 s1 s2 s3 hb8 o8
          simp only [framed, List.foldl_cons, List.foldl_nil, List.setIfInBounds_toArray, List.set_cons_succ, List.set_cons_zero]
          refine hK7 _ _ ?_
          clear hK7
          go_wp2
          go_roundw
          case rel => exact ⟨k + 1, L ++ [z], A8, c8, by go_num, by omega, hidm_ (by rw [List.length_append, LK.out]; rfl), LE2, O6, P6, hidm_ (HST.out.trans S6.out), B6, Z6⟩
          case measure => simp [intOf]; omega
      · have tl : ¬ (k : Int) < (nD : Int) := by omega
        obtain rfl : nD = k := by omega
        have HF := hidm_ (show ds = L by rw [LE.out, ← HND.out, List.take_length])
        have DG1 := HO
        have PB1 := HP
        have ST1 := HST
        have BB1 := HBW
        have SB1 := HSZ
        have LK1 := hidm_ (show ds.length = nD from HND.out)
        have OT1 := hidm_ (O7.out.st HST.out (Nat.le_refl _) (by decide))
        have OA1 := hidm_ (O8.out.st HST.out (Nat.le_refl _) (by decide))
        obtain rfl := HF.out
        clear HF LE HO HP HST HBW HSZ O7 O8
        go_wp2
        obtain ⟨wL, hwL⟩ : ∃ x, x = wr := ⟨_, rfl⟩
        subst hwL
        go_loopw [5] (fun i wr => ∃ (k : Nat) (L : List KrA) (Ar : Option Addr) (cr : Nat), i = .int .i64 k ∧ k ≤ nR ∧ Hid (L.length = k) ∧ Hid (L.map (·.r) = rs.take k) ∧ Hid (OwnG krE 37 wr (g + 2) (.slice Ar k cr) L) ∧ Hid (RwsO wr (g + 2) L) ∧ Hid (Bk wr gp 41 (mgC (⟨kd, fr, ak, er, fo, lv, ⟨⟨K, S⟩, A7, c7⟩, xs, B8, d8, ds, Ad, cd, L, Ar, cr⟩ : MgA)).toArray) ∧ Hid (StT [37, 41] (g + 2) wL wr) ∧ Hid (Below (g + 2) w2 wr) ∧ Hid (g + 2 ≤ wr.heap.size)) (fun i _ => nR - (intOf i).toNat)
        case atStart => exact ⟨0, [], none, 0, rfl, Nat.zero_le _, hidm_ rfl, hidm_ rfl, hidm_ (OwnG.nil_ _ _ _), hidm_ (fun r hr => by cases hr), PB1, hidm_ (StT.refl _ _ _), BB1, SB1⟩
        case round =>
          obtain ⟨k, L, Ar, cr, rfl, hk, LK, LE, HO, HW_, HP, HST, HBW, HSZ⟩ := hrel
          clear PB1 BB1 SB1
          obtain ⟨l6, l7, l8, l9, l10⟩ := HI.out wr HBW.out
          by_cases hlt : k < nR
          · have tl : (k : Int) < (nR : Int) := by omega
            have hlk : k < rs.length := by rw [HNR.out]; exact hlt
            go_upto_region 9 with fail
            rename_i K7 hK7
            clear l6 l7 l8 l9 l10
            obtain ⟨bb, off, hA, hbl, hcb⟩ := HQ.out.rows (show 0 < rs.length by omega)
            have hA : A3 = some ⟨bb, off, none⟩ := hA
            have DA := hidm_ hA
            have HZM := hidm_ (List.getElem_mem hlk)
            obtain ⟨z, hz9⟩ : ∃ z, rs[k] = z := ⟨_, rfl⟩
            rw [hz9] at HZM
            have LE2 := hidm_ (show rs.take k ++ [z] = rs.take (k + 1) by rw [List.take_succ_eq_append_getElem hlk, hz9])
            have ZL := hidm_ (RL.out z HZM.out)
            have hzl := RSL.out z HZM.out
            obtain ⟨nz, hnz⟩ : ∃ n, z.set.length = n := ⟨_, rfl⟩
            rw [hnz] at hzl
            have ZS := hidm_ hnz
            have EK := hidm_ (show ∀ W, Below (g + 2) w2 W → W.cell? ⟨bb, off + k * 2, none⟩ = some (.string (strOf z.key)) from fun W h => (h.cell (p := ⟨bb, _, none⟩) (show bb < g + 2 by omega)).trans ((X2.out.cell (p := ⟨bb, _, none⟩) hbl).trans (by have hx := hcb k hlk 0 (by decide); rw [hz9] at hx; exact hx)))
            have ES := hidm_ (show ∀ W, Below (g + 2) w2 W → W.cell? ⟨bb, off + k * 2 + 1, none⟩ = some (.string (strOf z.set)) from fun W h => (h.cell (p := ⟨bb, _, none⟩) (show bb < g + 2 by omega)).trans ((X2.out.cell (p := ⟨bb, _, none⟩) hbl).trans (by have hx := hcb k hlk 1 (by decide); rw [hz9] at hx; exact hx)))
            clear hnz
            have CB := hidm_ (show ∀ W, Below wr.heap.size wr W → W.cell? ⟨gp, 41, none⟩ = some (.slice Ar k cr) from fun W h => by
              have hx := ((HP.out.below h HP.out.lt).cell 41).trans (mgC_hi (⟨kd, fr, ak, er, fo, lv, ⟨⟨K, S⟩, A7, c7⟩, xs, B8, d8, ds, Ad, cd, L, Ar, cr⟩ : MgA) KL.out 2)
              simpa [LK.out] using hx)
            clear hA hz9 hcb hlk
            refine region_byJF [57, 58, 59, 60, 61, 62, 63, 64, 65, 66, 67, 68, 69, 70, 71, 72, 73, 74, 75, 76] (fun _ => True) (fun w w' => ∀ b, wr.heap.size ≤ b → b < w.heap.size → w'.heap[b]? = w.heap[b]?) (fun jR_ vR_ (wR_ : World) => (match jR_ with | 0 => vR_ = .pointer (some ⟨gp, 41, none⟩) | 1 => vR_ = .slice Ar k cr | 2 => vR_ = .pointer (some ⟨g, 10, none⟩) | 3 => vR_ = .slice (some ⟨bb, off, none⟩) nR c3 | 4 => vR_ = .int .i64 (k : Int) | 5 => vR_ = .pointer (some ⟨bb, off + k * 2, none⟩) | 6 => vR_ = .pointer (some ⟨bb, off + k * 2, none⟩) | 7 => vR_ = .string (strOf z.key) | 8 => vR_ = .agg (rowOf z.key) | 9 => vR_ = .pointer (some ⟨g, 10, none⟩) | 10 => vR_ = .slice (some ⟨bb, off, none⟩) nR c3 | 11 => vR_ = .int .i64 (k : Int) | 12 => vR_ = .pointer (some ⟨bb, off + k * 2, none⟩) | 13 => vR_ = .pointer (some ⟨bb, off + k * 2 + 1, none⟩) | 14 => vR_ = .string (strOf z.set) | 15 => ∃ A5 c5, vR_ = .slice A5 nz c5 ∧ OwnT wR_ wr.heap.size (.slice A5 nz c5) z.set | 16 => ∃ A5 c5, vR_ = .agg (krC ⟨z, A5, c5⟩).toArray ∧ OwnT wR_ wr.heap.size (.slice A5 nz c5) z.set | 17 => ∃ b A5 c5, vR_ = .slice (some ⟨b, 0, none⟩) 1 1 ∧ wr.heap.size ≤ b ∧ Bk wR_ b 37 (krE.c ⟨z, A5, c5⟩).toArray ∧ OwnT wR_ wr.heap.size (.slice A5 nz c5) z.set | 19 => vR_ = .pointer (some ⟨gp, 41, none⟩) | _ => True)) (fun D a W => AcJ 18 20 75 [(18, 17), (18, 1), (17, 16), (16, 8), (16, 15)] (fun W => Below wr.heap.size wr W) (fun W => StT [37, 41] (g + 2) wr W ∧ Below (g + 2) w2 W ∧ g + 2 ≤ W.heap.size ∧ Bk W gp 41 (mgC (⟨kd, fr, ak, er, fo, lv, ⟨⟨K, S⟩, A7, c7⟩, xs, B8, d8, ds, Ad, cd, L, Ar, cr⟩ : MgA)).toArray) (fun W => StT [37, 41] (g + 2) wr W ∧ Below (g + 2) w2 W ∧ g + 2 ≤ W.heap.size ∧ ∃ A8 c8 y, y.r = z ∧ Bk W gp 41 (mgC (⟨kd, fr, ak, er, fo, lv, ⟨⟨K, S⟩, A7, c7⟩, xs, B8, d8, ds, Ad, cd, (L ++ [y]), A8, c8⟩ : MgA)).toArray ∧ OwnG krE 37 W (g + 2) (.slice A8 (k + 1) c8) (L ++ [y]) ∧ RwsO W (g + 2) (L ++ [y])) (fun v W => ∃ A8 c8 y, v = (.slice A8 (k + 1) c8) ∧ y.r = z ∧ OwnG krE 37 W (g + 2) v (L ++ [y]) ∧ RwsO W (g + 2) (L ++ [y])) D a W) (by kernel_rfl) (by kernel_rfl) (by kernel_rfl) (by kernel_rfl) (fun j v w w' hT hr => (by rcases j with _ | _ | _ | _ | _ | _ | _ | _ | _ | _ | _ | _ | _ | _ | _ | _ | _ | _ | _ | _ | _ | j <;> first | exact hr | (obtain ⟨b, x1, x2, x3⟩ := hr; exact ⟨b, x1, x2, (hT b x2 x3.lt).trans x3⟩) | (obtain ⟨x1, x2, h1, h2⟩ := hr; exact ⟨x1, x2, h1, h2.blk hT⟩) | (obtain ⟨b, x1, x2, h1, h2, h3, h4⟩ := hr; exact ⟨b, x1, x2, h1, h2, (hT b h2 h3.lt).trans h3, h4.blk hT⟩))) (fun j v w hlt hj _ => ?_) trivial ?_ (AcJ.start (below_drewN (Below.refl _ _) 1)) ?_
            · rcases j with _ | _ | _ | _ | _ | _ | _ | _ | _ | _ | _ | _ | _ | _ | _ | _ | _ | _ | _ | _ | _ | j
              all_goals first
                | (exfalso; simp [dstOf] at hj; done)
                | trivial
            · refine ⟨fun D a9 W hC hd hsz hf hv hJ hL hW K8 hK => ?_, fun D a9 W hC hd hsz hf hv hJ hL hW K8 hK => ?_, fun D a9 W hC hd hsz hf hv hJ hL hW K8 hK => ?_, fun D a9 W hC hd hsz hf hv hJ hL hW K8 hK => ?_, fun D a9 W hC hd hsz hf hv hJ hL hW K8 hK => ?_, fun D a9 W hC hd hsz hf hv hJ hL hW K8 hK => ?_, fun D a9 W hC hd hsz hf hv hJ hL hW K8 hK => ?_, fun D a9 W hC hd hsz hf hv hJ hL hW K8 hK => ?_, fun D a9 W hC hd hsz hf hv hJ hL hW K8 hK => ?_, fun D a9 W hC hd hsz hf hv hJ hL hW K8 hK => ?_, fun D a9 W hC hd hsz hf hv hJ hL hW K8 hK => ?_, fun D a9 W hC hd hsz hf hv hJ hL hW K8 hK => ?_, fun D a9 W hC hd hsz hf hv hJ hL hW K8 hK => ?_, fun D a9 W hC hd hsz hf hv hJ hL hW K8 hK => ?_, fun D a9 W hC hd hsz hf hv hJ hL hW K8 hK => ?_, fun D a9 W hC hd hsz hf hv hJ hL hW K8 hK => ?_, fun D a9 W hC hd hsz hf hv hJ hL hW K8 hK => ?_, fun D a9 W hC hd hsz hf hv hJ hL hW K8 hK => ?_, fun D a9 W hC hd hsz hf hv hJ hL hW K8 hK => ?_, fun D a9 W hC hd hsz hf hv hJ hL hW K8 hK => ?_, fun D a9 W hC hd hsz hf hv hJ hL hW K8 hK => ?_, trivial⟩
              · clear hsz
                have eS1_ := slot_of (a := a9) (s := 3) (v := .pointer (some ⟨gp, 0, none⟩)) (hf 3 (by kernel_rfl))
                refine step_run (wanted_none rfl) (v := .pointer (some ⟨gp, 41, none⟩)) (w' := W) ?_ (hK _ _ trivial (fun _ _ _ => rfl) rfl (hJ.same 0 (by decide) (by decide) (fun p hp e => by simp only [List.mem_cons, List.not_mem_nil, or_false] at hp; rcases hp with rfl | rfl | rfl | rfl | rfl <;> first | exact absurd e (by decide) | exact hW _ (by kernel_rfl)) (by decide) _))
                go_simp
              · clear hsz
                have eS1_ := slot_of (a := a9) (s := 57) (v := .pointer (some ⟨gp, 41, none⟩)) (hv 0 (by kernel_rfl))
                have hn18 := hJ.no 18 1 (by decide) hL
                have hc9 := CB.out W (hJ.s0 hn18)
                refine step_run (wanted_none rfl) (v := .slice Ar k cr) (w' := W) ?_ (hK _ _ trivial (fun _ _ _ => rfl) rfl (hJ.same 1 (by decide) (by decide) (fun p hp e => by simp only [List.mem_cons, List.not_mem_nil, or_false] at hp; rcases hp with rfl | rfl | rfl | rfl | rfl <;> first | exact absurd e (by decide) | exact hW _ (by kernel_rfl)) (by decide) _))
                go_simp
              · clear hsz
                have eS1_ := slot_of (a := a9) (s := 1) (v := .pointer (some ⟨g, 0, none⟩)) (hf 1 (by kernel_rfl))
                refine step_run (wanted_none rfl) (v := .pointer (some ⟨g, 10, none⟩)) (w' := W) ?_ (hK _ _ trivial (fun _ _ _ => rfl) rfl (hJ.same 2 (by decide) (by decide) (fun p hp e => by simp only [List.mem_cons, List.not_mem_nil, or_false] at hp; rcases hp with rfl | rfl | rfl | rfl | rfl <;> first | exact absurd e (by decide) | exact hW _ (by kernel_rfl)) (by decide) _))
                go_simp
              · clear hsz
                have eS1_ := slot_of (a := a9) (s := 59) (v := .pointer (some ⟨g, 10, none⟩)) (hv 2 (by kernel_rfl))
                have hb9 : Below (g + 2) w2 W := hJ.any (fun h => HBW.out.trans (h.mono HSZ.out)) (fun h => h.2.1) (fun h => h.2.1)
                obtain ⟨l6, l7, l8, l9, l10⟩ := HI.out W hb9
                rw [DA.out] at l10
                refine step_run (wanted_none rfl) (v := .slice (some ⟨bb, off, none⟩) nR c3) (w' := W) ?_ (hK _ _ trivial (fun _ _ _ => rfl) rfl (hJ.same 3 (by decide) (by decide) (fun p hp e => by simp only [List.mem_cons, List.not_mem_nil, or_false] at hp; rcases hp with rfl | rfl | rfl | rfl | rfl <;> first | exact absurd e (by decide) | exact hW _ (by kernel_rfl)) (by decide) _))
                go_simp
              · clear hsz
                have eS1_ := slot_of (a := a9) (s := 5) (v := .int .i64 (k : Int)) (hf 5 (by kernel_rfl))
                refine step_run (wanted_none rfl) (v := .int .i64 (k : Int)) (w' := W) ?_ (hK _ _ trivial (fun _ _ _ => rfl) rfl (hJ.same 4 (by decide) (by decide) (fun p hp e => by simp only [List.mem_cons, List.not_mem_nil, or_false] at hp; rcases hp with rfl | rfl | rfl | rfl | rfl <;> first | exact absurd e (by decide) | exact hW _ (by kernel_rfl)) (by decide) _))
                go_simp
              · clear hsz
                have eS1_ := slot_of (a := a9) (s := 60) (v := .slice (some ⟨bb, off, none⟩) nR c3) (hv 3 (by kernel_rfl))
                have eS2_ := slot_of (a := a9) (s := 61) (v := .int .i64 (k : Int)) (hv 4 (by kernel_rfl))
                refine step_run (wanted_none rfl) (v := .pointer (some ⟨bb, off + k * 2, none⟩)) (w' := W) ?_ (hK _ _ trivial (fun _ _ _ => rfl) rfl (hJ.same 5 (by decide) (by decide) (fun p hp e => by simp only [List.mem_cons, List.not_mem_nil, or_false] at hp; rcases hp with rfl | rfl | rfl | rfl | rfl <;> first | exact absurd e (by decide) | exact hW _ (by kernel_rfl)) (by decide) _))
                go_simp
              · clear hsz
                have eS1_ := slot_of (a := a9) (s := 62) (v := .pointer (some ⟨bb, off + k * 2, none⟩)) (hv 5 (by kernel_rfl))
                refine step_run (wanted_none rfl) (v := .pointer (some ⟨bb, off + k * 2, none⟩)) (w' := W) ?_ (hK _ _ trivial (fun _ _ _ => rfl) rfl (hJ.same 6 (by decide) (by decide) (fun p hp e => by simp only [List.mem_cons, List.not_mem_nil, or_false] at hp; rcases hp with rfl | rfl | rfl | rfl | rfl <;> first | exact absurd e (by decide) | exact hW _ (by kernel_rfl)) (by decide) _))
                go_simp
              · clear hsz
                have eS1_ := slot_of (a := a9) (s := 63) (v := .pointer (some ⟨bb, off + k * 2, none⟩)) (hv 6 (by kernel_rfl))
                have hb9 : Below (g + 2) w2 W := hJ.any (fun h => HBW.out.trans (h.mono HSZ.out)) (fun h => h.2.1) (fun h => h.2.1)
                have hc9 := EK.out W hb9
                refine step_run (wanted_none rfl) (v := .string (strOf z.key)) (w' := W) ?_ (hK _ _ trivial (fun _ _ _ => rfl) rfl (hJ.same 7 (by decide) (by decide) (fun p hp e => by simp only [List.mem_cons, List.not_mem_nil, or_false] at hp; rcases hp with rfl | rfl | rfl | rfl | rfl <;> first | exact absurd e (by decide) | exact hW _ (by kernel_rfl)) (by decide) _))
                go_simp
              · clear hsz
                have eS1_ := slot_of (a := a9) (s := 64) (v := .string (strOf z.key)) (hv 7 (by kernel_rfl))
                have hn16 := hJ.no 16 8 (by decide) hL
                have hn17 := hJ.no 17 16 (by decide) hn16
                have hn18 := hJ.no 18 17 (by decide) hn17
                refine step_callx 25 #[.string (strOf z.key)] (wanted_none rfl) (w' := W) ?_ ((blind_any W z.key).mono fun e W2 hh => ?_)
                · go_simp
                · obtain ⟨rfl, hB⟩ := hh
                  rw [pad32_id ZL.out]
                  exact ⟨_, rfl, hK _ _ trivial (fun b x1 x2 => hB.block b x2) rfl (hJ.low 8 hn18 (by decide) (by decide) (fun p hp e => by simp only [List.mem_cons, List.not_mem_nil, or_false] at hp; rcases hp with rfl | rfl | rfl | rfl | rfl <;> first | exact absurd e (by decide) | exact hW _ (by kernel_rfl)) (fun h => h.trans (hB.mono h.size)) _)⟩
              · clear hsz
                have eS1_ := slot_of (a := a9) (s := 1) (v := .pointer (some ⟨g, 0, none⟩)) (hf 1 (by kernel_rfl))
                refine step_run (wanted_none rfl) (v := .pointer (some ⟨g, 10, none⟩)) (w' := W) ?_ (hK _ _ trivial (fun _ _ _ => rfl) rfl (hJ.same 9 (by decide) (by decide) (fun p hp e => by simp only [List.mem_cons, List.not_mem_nil, or_false] at hp; rcases hp with rfl | rfl | rfl | rfl | rfl <;> first | exact absurd e (by decide) | exact hW _ (by kernel_rfl)) (by decide) _))
                go_simp
              · clear hsz
                have eS1_ := slot_of (a := a9) (s := 66) (v := .pointer (some ⟨g, 10, none⟩)) (hv 9 (by kernel_rfl))
                have hb9 : Below (g + 2) w2 W := hJ.any (fun h => HBW.out.trans (h.mono HSZ.out)) (fun h => h.2.1) (fun h => h.2.1)
                obtain ⟨l6, l7, l8, l9, l10⟩ := HI.out W hb9
                rw [DA.out] at l10
                refine step_run (wanted_none rfl) (v := .slice (some ⟨bb, off, none⟩) nR c3) (w' := W) ?_ (hK _ _ trivial (fun _ _ _ => rfl) rfl (hJ.same 10 (by decide) (by decide) (fun p hp e => by simp only [List.mem_cons, List.not_mem_nil, or_false] at hp; rcases hp with rfl | rfl | rfl | rfl | rfl <;> first | exact absurd e (by decide) | exact hW _ (by kernel_rfl)) (by decide) _))
                go_simp
              · clear hsz
                have eS1_ := slot_of (a := a9) (s := 5) (v := .int .i64 (k : Int)) (hf 5 (by kernel_rfl))
                refine step_run (wanted_none rfl) (v := .int .i64 (k : Int)) (w' := W) ?_ (hK _ _ trivial (fun _ _ _ => rfl) rfl (hJ.same 11 (by decide) (by decide) (fun p hp e => by simp only [List.mem_cons, List.not_mem_nil, or_false] at hp; rcases hp with rfl | rfl | rfl | rfl | rfl <;> first | exact absurd e (by decide) | exact hW _ (by kernel_rfl)) (by decide) _))
                go_simp
              · clear hsz
                have eS1_ := slot_of (a := a9) (s := 67) (v := .slice (some ⟨bb, off, none⟩) nR c3) (hv 10 (by kernel_rfl))
                have eS2_ := slot_of (a := a9) (s := 68) (v := .int .i64 (k : Int)) (hv 11 (by kernel_rfl))
                refine step_run (wanted_none rfl) (v := .pointer (some ⟨bb, off + k * 2, none⟩)) (w' := W) ?_ (hK _ _ trivial (fun _ _ _ => rfl) rfl (hJ.same 12 (by decide) (by decide) (fun p hp e => by simp only [List.mem_cons, List.not_mem_nil, or_false] at hp; rcases hp with rfl | rfl | rfl | rfl | rfl <;> first | exact absurd e (by decide) | exact hW _ (by kernel_rfl)) (by decide) _))
                go_simp
              · clear hsz
                have eS1_ := slot_of (a := a9) (s := 69) (v := .pointer (some ⟨bb, off + k * 2, none⟩)) (hv 12 (by kernel_rfl))
                refine step_run (wanted_none rfl) (v := .pointer (some ⟨bb, off + k * 2 + 1, none⟩)) (w' := W) ?_ (hK _ _ trivial (fun _ _ _ => rfl) rfl (hJ.same 13 (by decide) (by decide) (fun p hp e => by simp only [List.mem_cons, List.not_mem_nil, or_false] at hp; rcases hp with rfl | rfl | rfl | rfl | rfl <;> first | exact absurd e (by decide) | exact hW _ (by kernel_rfl)) (by decide) _))
                go_simp
              · clear hsz
                have eS1_ := slot_of (a := a9) (s := 70) (v := .pointer (some ⟨bb, off + k * 2 + 1, none⟩)) (hv 13 (by kernel_rfl))
                have hb9 : Below (g + 2) w2 W := hJ.any (fun h => HBW.out.trans (h.mono HSZ.out)) (fun h => h.2.1) (fun h => h.2.1)
                have hc9 := ES.out W hb9
                refine step_run (wanted_none rfl) (v := .string (strOf z.set)) (w' := W) ?_ (hK _ _ trivial (fun _ _ _ => rfl) rfl (hJ.same 14 (by decide) (by decide) (fun p hp e => by simp only [List.mem_cons, List.not_mem_nil, or_false] at hp; rcases hp with rfl | rfl | rfl | rfl | rfl <;> first | exact absurd e (by decide) | exact hW _ (by kernel_rfl)) (by decide) _))
                go_simp
              · clear hsz
                have eS1_ := slot_of (a := a9) (s := 71) (v := .string (strOf z.set)) (hv 14 (by kernel_rfl))
                have hn16 := hJ.no 16 15 (by decide) hL
                have hn17 := hJ.no 17 16 (by decide) hn16
                have hn18 := hJ.no 18 17 (by decide) hn17
                have hS0 := hJ.s0 hn18
                refine step_bytesT (base := wr.heap.size) (wanted_none rfl) (.tmp 71) rfl z.set (eval_of (hv 14 (by kernel_rfl))) hS0.size (by rw [ZS.out]; unfold maxLen; omega) ?_
                intro A5 c5 W2 o5 hB
                rw [ZS.out] at o5 ⊢
                exact hK _ _ trivial (fun b x1 x2 => hB.block b x2) ⟨A5, c5, rfl, o5⟩ (hJ.low 15 hn18 (by decide) (by decide) (fun p hp e => by simp only [List.mem_cons, List.not_mem_nil, or_false] at hp; rcases hp with rfl | rfl | rfl | rfl | rfl <;> first | exact absurd e (by decide) | exact hW _ (by kernel_rfl)) (fun h => h.trans (hB.mono h.size)) _)
              · clear hsz
                have eS1_ := slot_of (a := a9) (s := 65) (v := .agg (rowOf z.key)) (hv 8 (by kernel_rfl))
                obtain ⟨A5, c5, h72, o5⟩ := hv 15 (by kernel_rfl)
                have eB_ := eval_of (a := a9) (s := 72) h72
                have eA_ := eval_of (a := a9) (s := 65) (v := .agg (rowOf z.key)) (hv 8 (by kernel_rfl))
                refine step_builtM (wanted_none rfl) 37 #[(0, .tmp 65), (1, .tmp 72)] rfl (krC ⟨z, A5, c5⟩).toArray ?_ ?_
                · simp only [List.map_toArray, List.map_cons, List.map_nil, eA_, eB_]
                  exact builtKr z.key z.set ZL.out A5 nz c5 ZS.out
                · exact hK _ _ trivial (fun b x1 x2 => rfl) ⟨A5, c5, rfl, o5⟩ (hJ.same 16 (by decide) (by decide) (fun p hp e => by simp only [List.mem_cons, List.not_mem_nil, or_false] at hp; rcases hp with rfl | rfl | rfl | rfl | rfl <;> first | exact absurd e (by decide) | exact hW _ (by kernel_rfl)) (by decide) _)
              · clear hsz
                have hn18 := hJ.no 18 17 (by decide) hL
                have hS0 := hJ.s0 hn18
                obtain ⟨A5, c5, h73, o5⟩ := hv 16 (by kernel_rfl)
                have hrz : (krC ⟨z, A5, c5⟩).toArray = (krE.c ⟨z, A5, c5⟩).toArray := by show _ = (krC (padR _)).toArray; rw [padR_id ZL.out]
                refine step_oneG krE Try.underlying39 infoKr (by decide) (wanted_none rfl) (.tmp 73) rfl (krC ⟨z, A5, c5⟩).toArray (eval_of h73) ⟨z, A5, c5⟩ hrz ?_
                rw [hrz]
                have hB := (Below.refl W.heap.size W).alloc (Nat.le_refl _) (.cells (krE.c ⟨z, A5, c5⟩).toArray 37)
                exact hK _ _ trivial (fun b x1 x2 => hB.block b x2) ⟨W.heap.size, A5, c5, rfl, hS0.size, Bk.new W _ _, o5.alloc _⟩ (hJ.low 17 hn18 (by decide) (by decide) (fun p hp e => by simp only [List.mem_cons, List.not_mem_nil, or_false] at hp; rcases hp with rfl | rfl | rfl | rfl | rfl <;> first | exact absurd e (by decide) | exact hW _ (by kernel_rfl)) (fun h => h.trans (hB.mono h.size)) _)
              · skip
                have eS1_ := slot_of (a := a9) (s := 58) (v := .slice Ar k cr) (hv 1 (by kernel_rfl))
                have hsz9 : 75 < a9.tmps.size := by rw [hsz]; exact (by decide : 75 < 78)
                have hS0 := hJ.s0 hL
                obtain ⟨b, A5, c5, h74, hb1, hb2, o5⟩ := hv 17 (by kernel_rfl)
                have OW := HO.out.below hS0 (Nat.le_refl _)
                have hs9 : g + 2 ≤ W.heap.size := Nat.le_trans HSZ.out hS0.size
                have hbx := HP.out.below hS0 HP.out.lt
                refine step_appGg rfl (.tmp 58) (.tmp 74) rfl Try.underlying39 infoKr OW (eval_of (hv 1 (by kernel_rfl))) 1 1 (eval_of h74) (RdG.of_block (p := ⟨z, A5, c5⟩) hb2 hb2.lt) rfl (by rw [LK.out]; omega) (by decide) hs9 ?_
                intro A8 c8 W2 k1 k2 k3
                rw [LK.out] at k1 k3 ⊢
                have st9 : StT [37, 41] (g + 2) W W2 := OW.grownSt k2 (by simp)
                have st8 : StT [37, 41] (g + 2) wr W := StT.of_below _ _ hS0 (Nat.le_refl _)
                have rw9 : RwsO W2 (g + 2) (L ++ [⟨z, A5, c5⟩]) := fun r hr => by
                  rcases List.mem_append.1 hr with hr | hr
                  · exact (HW_.out.st (st8.trans st9) (Nat.le_refl _) (by decide)) r hr
                  · rw [List.mem_singleton.1 hr]
                    exact ⟨ZL.out, by show OwnT W2 (g + 2) (.slice A5 z.set.length c5) z.set; rw [ZS.out]; exact (o5.lower HSZ.out).st st9 (Nat.le_refl _) (by decide)⟩
                exact hK _ _ trivial (fun b' x1 x2 => k2.block b' x2 (fun e => by have := (HO.out.lt b' e.symm).2; omega)) trivial (hJ.app hL (by decide) (fun p hp e => by simp only [List.mem_cons, List.not_mem_nil, or_false] at hp; rcases hp with rfl | rfl | rfl | rfl | rfl <;> first | exact absurd e (by decide) | exact hW _ (by kernel_rfl)) hsz9 ⟨st8.trans st9, (HBW.out.trans (hS0.mono HSZ.out)).grown k2 hs9 (fun j hj => (OW.lt j hj).1), Nat.le_trans hs9 k2.size, hbx.grown k2 (fun e => OW.type_ne hbx (by decide) e.symm)⟩ ⟨A8, c8, ⟨z, A5, c5⟩, rfl, rfl, k1, rw9⟩)
              · clear hsz
                have eS1_ := slot_of (a := a9) (s := 3) (v := .pointer (some ⟨gp, 0, none⟩)) (hf 3 (by kernel_rfl))
                refine step_run (wanted_none rfl) (v := .pointer (some ⟨gp, 41, none⟩)) (w' := W) ?_ (hK _ _ trivial (fun _ _ _ => rfl) rfl (hJ.same 19 (by decide) (by decide) (fun p hp e => by simp only [List.mem_cons, List.not_mem_nil, or_false] at hp; rcases hp with rfl | rfl | rfl | rfl | rfl <;> first | exact absurd e (by decide) | exact hW _ (by kernel_rfl)) (by decide) _))
                go_simp
              · clear hsz
                have eS1_ := slot_of (a := a9) (s := 76) (v := .pointer (some ⟨gp, 41, none⟩)) (hv 19 (by kernel_rfl))
                have hd9 := hW 18 (by kernel_rfl)
                obtain ⟨⟨s1, s2, s3, s4⟩, A8, c8, y, h75, hy, o48, ow8⟩ := hJ.s1 hd9 hL
                rw [h75] at o48
                have eS48 := slot_of (a := a9) (s := 75) h75
                have hcz := (s4.cell 41).trans (mgC_hi (⟨kd, fr, ak, er, fo, lv, ⟨⟨K, S⟩, A7, c7⟩, xs, B8, d8, ds, Ad, cd, L, Ar, cr⟩ : MgA) KL.out 2)
                simp only [List.getElem?_cons_succ, List.getElem?_cons_zero, LK.out] at hcz
                have hfz := s4.frozen 41
                have u9 : Untouched [gp] W (W.setCell ⟨gp, 41, none⟩ (.slice A8 (k + 1) c8)) := Untouched.set gp 41 (by simp) _
                have st9 : StT [37, 41] (g + 2) W (W.setCell ⟨gp, 41, none⟩ (.slice A8 (k + 1) c8)) := ⟨u9.size, fun b cs u m _ hb hu => by rw [u9.block b (Array.getElem?_eq_some_iff.1 hb).1 (fun hm => by rw [List.mem_singleton.1 hm] at hb; have e4 : _ = some _ := s4; rw [e4] at hb; injection hb with hb; injection hb with _ hb _; exact hu (by simp [← hb]))]; exact hb⟩
                refine step_skip (wanted_none rfl) (w' := W.setCell ⟨gp, 41, none⟩ (.slice A8 (k + 1) c8)) ?_ (hK undef _ trivial (fun b x1 x2 => u9.block b x2 (fun hm => by rw [List.mem_singleton.1 hm] at x1; have := HP.out.lt; omega)) trivial (hJ.store hd9 (fun p hp e => by simp only [List.mem_cons, List.not_mem_nil, or_false] at hp; rcases hp with rfl | rfl | rfl | rfl | rfl <;> first | exact absurd e (by decide) | exact hW _ (by kernel_rfl)) ⟨s1.trans st9, s2.trans (u9.below (fun j hj => by rw [List.mem_singleton.1 hj]; exact GP.out) s3), Nat.le_trans s3 u9.size, ⟨A8, c8, y, hy, by rw [← mgC_rows (⟨kd, fr, ak, er, fo, lv, ⟨⟨K, S⟩, A7, c7⟩, xs, B8, d8, ds, Ad, cd, L, Ar, cr⟩ : MgA) KL.out (L ++ [y]) A8 (k + 1) c8 (by simp [LK.out])]; exact s4.set_ 41 _, o48.keep u9 (fun j hj hm => o48.type_ne s4 (by decide) (by rw [hj, List.mem_singleton.1 hm])), ow8.st st9 (Nat.le_refl _) (by decide)⟩⟩ _))
                go_simp
            · intro f9 w6 hC6 hv6 D6 hD6 hJ6
              obtain ⟨a6, hJ, hf6⟩ := hJ6
              obtain ⟨s1, s2, s3, A8, c8, y, hy, hb8, o8, ow8⟩ := hJ.s2 (hD6 20 (by decide))
              have S6 := hidm_ s1
              have B6 := hidm_ s2
              have Z6 := hidm_ s3
              have P6 := hidm_ hb8
              have O6 := hidm_ o8
              have W6 := hidm_ ow8
              have HY := hidm_ hy
              clear hv6 hD6 hC6 hJ hf6 s1 s2 s3 hb8 o8 ow8 hy
              simp only [framed, List.foldl_cons, List.foldl_nil, List.setIfInBounds_toArray, List.set_cons_succ, List.set_cons_zero]
              refine hK7 _ _ ?_
              clear hK7
              go_wp2
              go_roundw
              case rel => exact ⟨k + 1, L ++ [y], A8, c8, by go_num, by omega, hidm_ (by rw [List.length_append, LK.out]; rfl), hidm_ (by rw [List.map_append, LE.out, ← LE2.out, List.map_cons, List.map_nil, HY.out]), O6, W6, P6, hidm_ (HST.out.trans S6.out), B6, Z6⟩
              case measure => simp [intOf]; omega
          · have tl : ¬ (k : Int) < (nR : Int) := by omega
            obtain rfl : nR = k := by omega
            have HF := hidm_ (show L.map (·.r) = rs by rw [LE.out, ← HNR.out, List.take_length])
            have QF := hidm_ (show MgA.v (⟨kd, fr, ak, er, fo, lv, ⟨⟨K, S⟩, A7, c7⟩, xs, B8, d8, ds, Ad, cd, L, Ar, cr⟩ : MgA) = RmV.v (⟨kd, fr, ak, er, fo, lv, K, S, xs, A1, c1, ds, A2, c2, rs, A3, c3⟩ : RmV) by unfold MgA.v RmV.v; simp only [HF.out])
            go_wp2_with (first
              | (refine wpList_load_row rfl 41 (.tmp 3) rfl gp rfl 41 (mgC (⟨kd, fr, ak, er, fo, lv, ⟨⟨K, S⟩, A7, c7⟩, xs, B8, d8, ds, Ad, cd, L, Ar, cr⟩ : MgA)).toArray (0, 0) _ HP.out Try.underlying41 rfl (i42 _ KL.out) ?_)
              | (refine wpList_put_row rfl 41 (.tmp 2) (.tmp 77) rfl (g + 1) (mgC (⟨kd, fr, ak, er, fo, lv, ⟨⟨K, S⟩, A7, c7⟩, xs, B8, d8, ds, Ad, cd, L, Ar, cr⟩ : MgA)).toArray rfl rfl 41 (mgC mgZ).toArray (R2.out.below HBW.out (by omega)) (i42 _ KL.out) (by rw [List.size_toArray, List.size_toArray, mgC_len _ (zbytes_len 32), mgC_len _ KL.out]) (mgC_one _) ?_; intro y9 k9 g9 s9; have Y9 := hidm_ k9; have G9 := hidm_ g9; clear k9 g9 s9))
            have hB9 : Below w.heap.size w y9 := by rw [HG.out]; exact (X2.out.trans (HBW.out.mono (by omega))).grown G9.out (by have := HBW.out.size; have := S2.out; omega) (fun j hj => by injection hj with hj; omega)
            have hz9 : y9.heap.size ≥ g + 2 := by have := HBW.out.size; have := S2.out; have := G9.out.size; omega
            have sg := StT.of_grown (ts := [41]) (g := g + 2) G9.out (R2.out.below HBW.out (by omega)) (by simp)
            have ot := ((OT1.out.st HST.out (Nat.le_refl _) (by decide)).st sg (Nat.le_refl _) (by decide))
            have oa := ((OA1.out.st HST.out (Nat.le_refl _) (by decide)).st sg (Nat.le_refl _) (by decide))
            have od := ((DG1.out.st HST.out (Nat.le_refl _) (by decide)).st sg (Nat.le_refl _) (by decide))
            have ol := HO.out.st sg (Nat.le_refl _) (by decide)
            have ow := HW_.out.st sg (Nat.le_refl _) (by decide)
            rw [← HNS.out] at ot
            exact bodyPost_ret (results_cellM Try.results8 _ _ (g + 1) rfl (run_loadVar_row _ _ _ _ _ (0, 0) _ Y9.out Try.underlying41 rfl (i42 _ KL.out))) rfl ⟨(⟨kd, fr, ak, er, fo, lv, ⟨⟨K, S⟩, A7, c7⟩, xs, B8, d8, ds, Ad, cd, L, Ar, cr⟩ : MgA), rfl, QF.out,
              ⟨ot.kr KL.out, oa.rd.1, by rw [show (⟨kd, fr, ak, er, fo, lv, ⟨⟨K, S⟩, A7, c7⟩, xs, B8, d8, ds, Ad, cd, L, Ar, cr⟩ : MgA).ats.length = nX from HNX.out]; exact oa.cap, od.rd.1, by rw [show (⟨kd, fr, ak, er, fo, lv, ⟨⟨K, S⟩, A7, c7⟩, xs, B8, d8, ds, Ad, cd, L, Ar, cr⟩ : MgA).digs.length = nD from HND.out]; exact od.cap, DL.out, ol.rd.1, by rw [show (⟨kd, fr, ak, er, fo, lv, ⟨⟨K, S⟩, A7, c7⟩, xs, B8, d8, ds, Ad, cd, L, Ar, cr⟩ : MgA).rows.length = nR from LK.out]; exact ol.cap, ow.oks⟩, hB9⟩
end Go.Proofs.Ytnlipmcnpekifaa
