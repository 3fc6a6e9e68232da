/-
  Rows of slices of bytes whose blocks may bear a mark; append of such a row.
-/
import Derived.Test.YtdlciehboimciaaLJ
import Derived.Test.YtdlciehboimciaaLM
namespace Go.Proofs.Ytdlciehboimciaa
set_option maxRecDepth 100000
open Go.RowKit
set_option linter.unusedVariables false
set_option linter.unusedSimpArgs false

section
variable {w w' : World} {base : Nat} {v : Value} {l : List UInt8} {T : List TypeId}
theorem OwnT.ty (h : OwnT w base v l) : ∀ g, v.ownBlock = some g → base ≤ g ∧ g < w.heap.size ∧ ∃ cs fz, w.heap[g]? = some (.cells cs 5 fz) := fun k hk => by
  have hlt := h.lt k hk
  rcases h with ⟨rfl, _⟩ | ⟨g, cap, cur, fz, rfl, hb, hg, _⟩
  · simp [Value.ownBlock] at hk
  · simp [Value.ownBlock] at hk
    subst hk
    exact ⟨hlt.1, hlt.2, cur, fz, hg⟩
theorem OwnT.heapk (h : OwnT w base v l) (hg : ∀ g, v.ownBlock = some g → w'.heap[g]? = w.heap[g]?) : OwnT w' base v l := by
  rcases h with hn | ⟨g, cap, cur, fz, rfl, hb, hgg, rest⟩
  · exact .inl hn
  · exact .inr ⟨g, cap, cur, fz, rfl, hb, (hg g rfl).trans hgg, rest⟩
theorem OwnT.unt (h : OwnT w base v l) (hu : UnT T w w') (ht : 5 ∉ T) : OwnT w' base v l := h.heapk fun g hg => by
  obtain ⟨_, hlt, cs, fz, hh⟩ := h.ty g hg
  refine hu.2 g hlt fun cs' t' fz' e2 => ?_
  rw [hh] at e2
  injection e2 with e2
  injection e2 with _ e3 _
  rw [← e3]
  exact ht
end
/-- A row of slices of bytes, each in memory of its own, marked or not. -/
def RecT (w : World) (base : Nat) (v : Value) (L : List (List UInt8)) : Prop :=
  ∃ vs, w.ownsRow base 39 1 v L.length vs ∧ vs.length = L.length ∧ ∀ j, j < L.length → ∃ A c, vs[j]? = some (.slice A (L.getD j []).length c) ∧ OwnT w base (.slice A (L.getD j []).length c) (L.getD j [])
/-- Where such slices stand one behind the other. -/
def SrcR (w : World) (base : Nat) (A : Option Addr) (M : List (List UInt8)) : Prop := 0 < M.length → ∃ b off, A = some ⟨b, off, none⟩ ∧ ∀ j, j < M.length → ∃ a c, w.cell? ⟨b, off + j, none⟩ = some (.slice a (M.getD j []).length c) ∧ OwnT w base (.slice a (M.getD j []).length c) (M.getD j [])
section
variable {w w' : World} {base : Nat} {v : Value} {L M : List (List UInt8)} {T : List TypeId}
theorem RecT.of_rec (h : RecR w base v L) : RecT w base v L := by
  obtain ⟨vs, h1, h2, h3⟩ := h
  exact ⟨vs, h1, h2, fun j hj => by obtain ⟨A, c, e, ho⟩ := h3 j hj; exact ⟨A, c, e, OwnT.of_own ho⟩⟩
theorem RecT.nil_ (w : World) (base : Nat) : RecT w base (.slice none 0 0) [] := RecT.of_rec (RecR.nil_ w base)
theorem RecT.heapk (h : RecT w base v L) (hk : ∀ k, base ≤ k → k < w.heap.size → (∃ cs t fz, w.heap[k]? = some (.cells cs t fz) ∧ (t = 5 ∨ t = 39)) → w'.heap[k]? = w.heap[k]?) : RecT w' base v L := by
  obtain ⟨vs, h1, h2, h3⟩ := h
  refine ⟨vs, ownsRow_heapk h1 fun g hg => ?_, h2, fun j hj => ?_⟩
  · obtain ⟨q1, q2, cs, q3⟩ := ownsRow_ty h1 g hg
    exact hk g q1 q2 ⟨cs, _, _, q3, .inr rfl⟩
  · obtain ⟨A, c, e, ho⟩ := h3 j hj
    refine ⟨A, c, e, ho.heapk fun g hg => ?_⟩
    obtain ⟨q1, q2, cs, fz, q3⟩ := ho.ty g hg
    exact hk g q1 q2 ⟨cs, _, _, q3, .inl rfl⟩
theorem RecT.unt (h : RecT w base v L) (hu : UnT T w w') (t1 : 5 ∉ T) (t2 : 39 ∉ T) : RecT w' base v L := h.heapk fun k _ hlt hh => by
  obtain ⟨cs, t, fz, q, ht⟩ := hh
  refine hu.2 k hlt fun cs' t' fz' e2 => ?_
  rw [q] at e2
  injection e2 with e2
  injection e2 with _ e3 _
  rw [← e3]
  rcases ht with rfl | rfl
  · exact t1
  · exact t2
theorem RecT.below (h : RecT w base v L) (hb : Below w.heap.size w w') : RecT w' base v L := h.heapk fun k _ hlt _ => hb.block k hlt
theorem RecT.form (h : RecT w base v L) : ∃ A c, v = .slice A L.length c := by
  obtain ⟨vs, h1, h2, h3⟩ := h
  rcases h1.2 with ⟨hv, h0⟩ | ⟨g, cap, cur, hv, _⟩
  · exact ⟨none, 0, by rw [h0]; exact hv⟩
  · exact ⟨_, cap, hv⟩
theorem RecT.src {A : Option Addr} {n c : Nat} (h : RecT w base (.slice A n c) L) : SrcR w base A L ∧ n = L.length ∧ n ≤ c ∧ c ≤ maxLen := by
  obtain ⟨vs, h1, h2, h3⟩ := h
  rcases h1.2 with ⟨hv, h0⟩ | ⟨g, cap, cur, hv, _, _, hc1, hc2, _⟩
  · injection hv with e1 e2 e3
    subst e1 e2 e3
    exact ⟨fun h => by omega, by omega, by omega, by omega⟩
  · injection hv with e1 e2 e3
    subst e1 e3
    refine ⟨fun _ => ⟨g, 0, rfl, fun j hj => ?_⟩, e2, by omega, hc2⟩
    obtain ⟨a, c2, he, ho⟩ := h3 j hj
    rw [e2] at h1
    have hc := World.ownsRow.cellAt h1 j (by omega)
    exact ⟨a, c2, by rw [Nat.zero_add, hc, he], ho⟩
theorem SrcR.pta {A : Option Addr} (h : SrcR w base A L) : PtA w A L := fun j hj => by
  obtain ⟨b, off, e, hc⟩ := h (by omega)
  obtain ⟨a, c, h1, h2⟩ := hc j hj
  exact ⟨b, off, a, c, e, h1, h2.rd.1, World.block_lt_of_cell? w _ h1⟩
theorem RecT.pta {A : Option Addr} {n c : Nat} (h : RecT w base (.slice A n c) L) : PtA w A L := h.src.1.pta
theorem SrcR.one (g : Nat) {A : Option Addr} {n c : Nat} {m : List UInt8} (hn : m.length = n) (ho : OwnT w base (.slice A n c) m) (hc : w.cell? ⟨g, 0, none⟩ = some (.slice A n c)) : SrcR w base (some ⟨g, 0, none⟩) [m] := fun _ => ⟨g, 0, rfl, fun j hj => by
  obtain rfl : j = 0 := by simpa using hj
  subst hn
  exact ⟨A, c, hc, ho⟩⟩
/-- append of such a row. -/
theorem RecT.app2 (h : RecT w base v L) {A : Option Addr} {n : Nat} (hn : M.length = n) (hs : SrcR w base A M) (ty : TypeId) (cc : Nat) (hsz : L.length + n ≤ 1000000) (hbase : base ≤ w.heap.size) :
    ∃ A' c' w', (Builtin.append_ #[32, 32] ty #[v, .slice A n cc]).run Try.prog w = .ok (.slice A' (L.length + n) c') w' ∧ RecT w' base (.slice A' (L.length + n) c') (L ++ M) ∧ w.grownBy w' v.ownBlock ∧ ((Value.slice A' (L.length + n) c').ownBlock = v.ownBlock ∨ (Value.slice A' (L.length + n) c').ownBlock = some w.heap.size) := by
  subst hn
  obtain ⟨i, hi, hz, hsize, hby⟩ := info_parts infoSl
  rcases Nat.eq_zero_or_pos M.length with h0 | h0
  · obtain rfl : M = [] := List.eq_nil_of_length_eq_zero h0
    obtain ⟨A1, c1, rfl⟩ := h.form
    have hc1 := h.src
    rw [List.append_nil]
    refine ⟨A1, c1, w, ?_, h, World.grownBy.refl w _, .inl rfl⟩
    cases A1 with
    | none =>
      have hL0 : L.length = 0 := by
        rcases Nat.eq_zero_or_pos L.length with h1 | h1
        · exact h1
        · obtain ⟨_, _, e, _⟩ := hc1.1 h1
          cases e
      cases A <;> simp [Builtin.append_, run_underlying Try.underlying32, sizeOf, typeInfo, hi, Builtin.lenOf, Builtin.firstCells, storeCells, loadCells, loadCellsFrom, hL0, hc1.2.2.1]
    | some a1 => cases A <;> simp [Builtin.append_, run_underlying Try.underlying32, sizeOf, typeInfo, hi, Builtin.lenOf, Builtin.firstCells, storeCells, loadCells, loadCellsFrom, hc1.2.2.1]
  · obtain ⟨b, off, rfl, hcs⟩ := hs h0
    obtain ⟨vs, h1, h2, h3⟩ := h
    have hnw : ∀ j, j < M.length → ∃ a c, ((List.range M.length).map fun k => (w.cell? ⟨b, off + k, none⟩).getD undef)[j]? = some (.slice a (M.getD j []).length c) ∧ w.cell? ⟨b, off + j, none⟩ = some (.slice a (M.getD j []).length c) ∧ OwnT w base (.slice a (M.getD j []).length c) (M.getD j []) := fun j hj => by
      obtain ⟨a, c, e1, e2⟩ := hcs j hj
      exact ⟨a, c, by rw [List.getElem?_map, List.getElem?_range hj]; simp [e1], e1, e2⟩
    generalize hns : (List.range M.length).map (fun k => (w.cell? ⟨b, off + k, none⟩).getD undef) = news at hnw
    have hnl : news.length = M.length := by rw [← hns]; simp
    obtain ⟨v', w', hrun, h5, h4, _, h6⟩ := run_append_own_at (P := Try.prog) w base 32 ty 39 i (.slice none 0 0) 1 24 Try.underlying32 hi hz hsize hby rfl (by decide) v L.length vs h1 ⟨b, off, none⟩ M.length cc news
      (by rw [hnl, Nat.mul_one]) (fun j x hx => by
        have hj : j < M.length := by rw [← hnl]; exact (List.getElem?_eq_some_iff.1 hx).1
        obtain ⟨a, c, e1, e2, _⟩ := hnw j hj
        rw [e1] at hx
        injection hx with hx
        subst hx
        have : (⟨b, off, none⟩ : Addr).add j = ⟨b, off + j, none⟩ := by unfold Addr.add; split <;> simp_all
        rw [this]
        exact e2) (fun x hx => by
        obtain ⟨j, hj⟩ := List.mem_iff_getElem?.1 hx
        have hj2 : j < M.length := by rw [← hnl]; exact (List.getElem?_eq_some_iff.1 hj).1
        obtain ⟨a, c, e1, _⟩ := hnw j hj2
        rw [e1] at hj
        injection hj with hj
        subst hj
        rfl) (by simp only [maxLen]; omega) (by omega) hbase
    have hpart : ∀ (u : Value) (x : List UInt8), OwnT w base u x → OwnT w' base u x := fun u x hu => hu.heapk fun k hk => h4.block k (hu.lt k hk).2 fun e => by
      obtain ⟨_, _, cs, fz, e1⟩ := hu.ty k hk
      obtain ⟨_, _, cs2, e2⟩ := ownsRow_ty h1 k e.symm
      rw [e1] at e2
      injection e2 with e2
      injection e2 with _ e3
      exact absurd e3 (by decide)
    have hR : RecT w' base v' (L ++ M) := by
      refine ⟨vs ++ news, ?_, by simp [h2, hnl], fun j hj => ?_⟩
      · rw [List.length_append]
        exact h5
      · rcases Nat.lt_or_ge j L.length with h7 | h7
        · obtain ⟨A2, c2, h8, h9⟩ := h3 j h7
          have e : (L ++ M).getD j [] = L.getD j [] := by simp [List.getD, List.getElem?_append_left h7]
          rw [e]
          exact ⟨A2, c2, by rw [List.getElem?_append_left (by rw [h2]; exact h7)]; exact h8, hpart _ _ h9⟩
        · rw [List.length_append] at hj
          obtain ⟨a, c, e1, _, e3⟩ := hnw (j - L.length) (by omega)
          have e : (L ++ M).getD j [] = M.getD (j - L.length) [] := by simp [List.getD, List.getElem?_append_right h7]
          rw [e]
          exact ⟨a, c, by rw [List.getElem?_append_right (by rw [h2]; exact h7), h2]; exact e1, hpart _ _ e3⟩
    obtain ⟨A', c', hv⟩ := hR.form
    rw [List.length_append] at hv
    subst hv
    exact ⟨A', c', w', hrun, hR, h4, h6⟩
theorem RecT.app (h : RecT w base v L) {A : Option Addr} {n : Nat} (hn : M.length = n) (hs : SrcR w base A M) (ty : TypeId) (cc : Nat) (hsz : L.length + n ≤ 1000000) (hbase : base ≤ w.heap.size) :
    ∃ A' c' w', (Builtin.append_ #[32, 32] ty #[v, .slice A n cc]).run Try.prog w = .ok (.slice A' (L.length + n) c') w' ∧ RecT w' base (.slice A' (L.length + n) c') (L ++ M) ∧ w.grownBy w' v.ownBlock := by
  obtain ⟨A', c', w', h1, h2, h3, _⟩ := h.app2 hn hs ty cc hsz hbase
  exact ⟨A', c', w', h1, h2, h3⟩
theorem wpList_appRT {ops : Array Oper} {rest : List Oper} {o : Oper} {a : Act} {Q : Exit → Act → World → Prop} (hgd : o.guard = none) (s x : Operand)
    (ho : o.op = .call { callee := .builtin .append, args := #[s, x], argTypes := #[32, 32] })
    (h : RecT w base v L) (hs : a.eval s = v) {A : Option Addr} (n cc : Nat) (hx : a.eval x = .slice A n cc) (hn : M.length = n) (hm : SrcR w base A M)
    (nl : Nat) (hnl : L.length = nl) (hsz : nl + n ≤ 1000000) (hbase : base ≤ w.heap.size)
    (hK : ∀ A' c' w', RecT w' base (.slice A' (nl + n) c') (L ++ M) → w.grownBy w' v.ownBlock → wpList Try.prog ops Q rest (a.put o.dst (.slice A' (nl + n) c')) w') : wpList Try.prog ops Q (o :: rest) a w := by
  subst hnl
  refine wpList_plain hgd fun K hKK => ?_
  obtain ⟨A', c', w', hrun, h2, h3⟩ := h.app hn hm o.type cc hsz hbase
  unfold Oper.wp execOp
  simp only [ho, resolve, invoke, builtin, Sem.run_bind, Sem.run_pure, Result.andThen_ok, List.map_toArray, List.map_cons, List.map_nil, hs, hx, hrun]
  exact hKK _ _ (hK A' c' w' h2 h3)
theorem step_appRT {ops : Array Oper} {o : Oper} {a : Act} {K : Act → World → Prop} {Q : Exit → Act → World → Prop} {E : Prop} (hgd : o.guard = none) (s x : Operand)
    (ho : o.op = .call { callee := .builtin .append, args := #[s, x], argTypes := #[32, 32] })
    (h : RecT w base v L) (hs : a.eval s = v) {A : Option Addr} (n cc : Nat) (hx : a.eval x = .slice A n cc) (hn : M.length = n) (hm : SrcR w base A M)
    (nl : Nat) (hnl : L.length = nl) (hsz : nl + n ≤ 1000000) (hbase : base ≤ w.heap.size)
    (hK : ∀ A' c' w', RecT w' base (.slice A' (nl + n) c') (L ++ M) → w.grownBy w' v.ownBlock → K (a.put o.dst (.slice A' (nl + n) c')) w') : if Region.wanted o (yielded ops a.tmps) = true then Oper.wp Try.prog o a w K Q else E := by
  have hw : Region.wanted o (yielded ops a.tmps) = true := by simp [Region.wanted, hgd]
  rw [if_pos hw]
  subst hnl
  obtain ⟨A', c', w', hrun, h2, h3⟩ := h.app hn hm o.type cc hsz hbase
  unfold Oper.wp execOp
  simp only [ho, resolve, invoke, builtin, Sem.run_bind, Sem.run_pure, Result.andThen_ok, List.map_toArray, List.map_cons, List.map_nil, hs, hx, hrun]
  exact hK A' c' w' h2 h3
theorem step_appRT2 {ops : Array Oper} {o : Oper} {a : Act} {K : Act → World → Prop} {Q : Exit → Act → World → Prop} {E : Prop} (hgd : o.guard = none) (s x : Operand)
    (ho : o.op = .call { callee := .builtin .append, args := #[s, x], argTypes := #[32, 32] })
    (h : RecT w base v L) (hs : a.eval s = v) {A : Option Addr} (n cc : Nat) (hx : a.eval x = .slice A n cc) (hn : M.length = n) (hm : SrcR w base A M)
    (nl : Nat) (hnl : L.length = nl) (hsz : nl + n ≤ 1000000) (hbase : base ≤ w.heap.size)
    (hK : ∀ A' c' w', RecT w' base (.slice A' (nl + n) c') (L ++ M) → w.grownBy w' v.ownBlock → ((Value.slice A' (nl + n) c').ownBlock = v.ownBlock ∨ (Value.slice A' (nl + n) c').ownBlock = some w.heap.size) → K (a.put o.dst (.slice A' (nl + n) c')) w') : if Region.wanted o (yielded ops a.tmps) = true then Oper.wp Try.prog o a w K Q else E := by
  have hw : Region.wanted o (yielded ops a.tmps) = true := by simp [Region.wanted, hgd]
  rw [if_pos hw]
  subst hnl
  obtain ⟨A', c', w', hrun, h2, h3, h4⟩ := h.app2 hn hm o.type cc hsz hbase
  unfold Oper.wp execOp
  simp only [ho, resolve, invoke, builtin, Sem.run_bind, Sem.run_pure, Result.andThen_ok, List.map_toArray, List.map_cons, List.map_nil, hs, hx, hrun]
  exact hK A' c' w' h2 h3 h4
/-- An empty row that was laid. -/
theorem RecT.lit0 (w : World) (base : Nat) (hb : base ≤ w.heap.size) : RecT (w.alloc (.cells #[] 39)) base (.slice (some ⟨w.heap.size, 0, none⟩) 0 0) [] :=
  ⟨[], ⟨rfl, .inr ⟨w.heap.size, 0, #[], rfl, hb, heap_alloc_new w _, Nat.le_refl _, Nat.zero_le _, rfl, rfl⟩⟩, rfl, fun j hj => absurd hj (by simp)⟩
end
end Go.Proofs.Ytdlciehboimciaa
