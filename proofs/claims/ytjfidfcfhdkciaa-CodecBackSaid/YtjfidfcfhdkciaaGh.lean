/-
  A row of parts of the call's own; append of one; what parts leave together.
-/
import Derived.Test.YtjfidfcfhdkciaaGg
import Derived.LaidEqlPtr
namespace Go.Proofs.Ytjfidfcfhdkciaa
open Go.ChangeShapes Go.WideShapes Go.ChangeAt Go.RowKit
set_option linter.unusedVariables false
set_option linter.unusedSimpArgs false

def flatS (l : List PartV) : List UInt8 := (l.map fun p => (partS p).1).flatten
theorem partS_len (p : PartV) : (partS p).1.length ≤ 204 := by
  unfold partS numL smallL
  repeat' split
  all_goals simp [highB_len]
  all_goals omega
theorem flatS_snoc1 (l : List PartV) (p : PartV) : flatS (l ++ [p]) = flatS l ++ (partS p).1 := by
  unfold flatS
  rw [List.map_append, List.flatten_append]
  simp only [List.map_cons, List.map_nil, List.flatten_cons, List.flatten_nil, List.append_nil]
theorem flatS_drop (l : List PartV) (k : Nat) (h : k < l.length) : flatS (l.drop k) = (partS l[k]).1 ++ flatS (l.drop (k + 1)) := by
  rw [List.drop_eq_getElem_cons h]
  rfl
theorem flatS_len (l : List PartV) : (flatS l).length ≤ 204 * l.length := by
  induction l with
  | nil => simp [flatS]
  | cons p l ih =>
    have := partS_len p
    have e : flatS (p :: l) = (partS p).1 ++ flatS l := rfl
    rw [e, List.length_append, List.length_cons]
    omega
def partC (p : PartV) : List Value := [.int .i64 p.kind, .int .i64 p.num, .slice p.at_ p.text.length p.cap]
def rowC (l : List PartV) : List Value := l.flatMap partC
theorem rowC_len (l : List PartV) : (rowC l).length = l.length * 3 := by
  induction l with
  | nil => rfl
  | cons p l ih =>
    have e : rowC (p :: l) = partC p ++ rowC l := rfl
    have h3 : (partC p).length = 3 := rfl
    rw [e, List.length_append, ih, List.length_cons, h3]
    omega
theorem rowC_at : ∀ (l : List PartV) (k : Nat) (h : k < l.length), (rowC l)[3 * k]? = some (.int .i64 (l[k]).kind) ∧ (rowC l)[3 * k + 1]? = some (.int .i64 (l[k]).num) ∧ (rowC l)[3 * k + 2]? = some (.slice (l[k]).at_ (l[k]).text.length (l[k]).cap)
  | [], _, h => absurd h (by simp)
  | p :: l, 0, _ => ⟨rfl, rfl, rfl⟩
  | p :: l, k + 1, h => by
    have ih := rowC_at l k (by simpa using h)
    have e : rowC (p :: l) = partC p ++ rowC l := rfl
    have h3 : (partC p).length = 3 := rfl
    have g : ∀ j, (partC p ++ rowC l)[3 * (k + 1) + j]? = (rowC l)[3 * k + j]? := fun j => by
      rw [List.getElem?_append_right (by omega), h3]
      congr 1
      omega
    rw [e]
    have g0 := g 0
    rw [Nat.add_zero, Nat.add_zero] at g0
    rw [g0, g 1, g 2]
    simpa using ih
/-- v is a slice of parts of the call's own. -/
def OwnPP (w : World) (base : Nat) (v : Value) (l : List PartV) : Prop := w.ownsRow base 36 3 v l.length (rowC l)
section
variable {w w' : World} {base : Nat} {v : Value} {l : List PartV}
theorem OwnPP.lt (h : OwnPP w base v l) : ∀ g, v.ownBlock = some g → base ≤ g ∧ g < w.heap.size := World.ownsRow.lt h
theorem OwnPP.nil_ (w : World) (base : Nat) : OwnPP w base (.slice none 0 0) [] := World.ownsRow_nil w base 36 3
theorem OwnPP.alloc (h : OwnPP w base v l) (o : Obj) : OwnPP (w.alloc o) base v l := World.ownsRow.alloc h o
theorem OwnPP.keep (h : OwnPP w base v l) {F : List Nat} (hu : Untouched F w w') (hF : ∀ g, v.ownBlock = some g → g ∉ F) : OwnPP w' base v l := by
  have hlt := h.lt
  refine ⟨h.1, ?_⟩
  rcases h.2 with hn | ⟨g, cap, cur, rfl, hb, hg, rest⟩
  · exact .inl hn
  · exact .inr ⟨g, cap, cur, rfl, hb, (hu.block g (hlt g rfl).2 (hF g rfl)).trans hg, rest⟩
theorem OwnPP.below (h : OwnPP w base v l) (hb : Below w.heap.size w w') : OwnPP w' base v l := h.keep (F := []) (.of_below hb) fun _ _ => by simp
theorem OwnPP.form (h : OwnPP w base v l) : ∃ A c, v = .slice A l.length c := by
  rcases h.2 with ⟨hv, h0⟩ | ⟨g, cap, cur, hv, _⟩
  · exact ⟨none, 0, by rw [h0]; exact hv⟩
  · exact ⟨_, cap, hv⟩
theorem OwnPP.cells {A : Option Addr} {n c : Nat} (h : OwnPP w base (.slice A n c) l) (k : Nat) (hk : k < l.length) : ∃ g, A = some ⟨g, 0, none⟩ ∧ n = l.length ∧
    w.cell? ⟨g, k * 3, none⟩ = some (.int .i64 (l[k]).kind) ∧ w.cell? ⟨g, k * 3 + 1, none⟩ = some (.int .i64 (l[k]).num) ∧ w.cell? ⟨g, k * 3 + 2, none⟩ = some (.slice (l[k]).at_ (l[k]).text.length (l[k]).cap) := by
  have h0 := h
  rcases h.2 with ⟨hv, hz⟩ | ⟨g, cap, cur, hv, _⟩
  · omega
  · injection hv with e1 e2 e3
    subst e1 e2 e3
    have hr := rowC_len l
    obtain ⟨r0, r1, r2⟩ := rowC_at l k hk
    refine ⟨g, rfl, rfl, ?_, ?_, ?_⟩
    · rw [World.ownsRow.cellAt h0 (k * 3) (by omega), Nat.mul_comm]; exact r0
    · rw [World.ownsRow.cellAt h0 (k * 3 + 1) (by omega), Nat.mul_comm]; exact r1
    · rw [World.ownsRow.cellAt h0 (k * 3 + 2) (by omega), Nat.mul_comm]; exact r2
theorem infoP : (Try.prog.info? 36).map (fun i => (i.size, i.bytes, i.zero.map (·.cells.size))) = some (3, 40, some 3) := by kernel_rfl
/-- append of one part, that has just been laid. -/
theorem run_appPP (h : OwnPP w base v l) (p : PartV) (g : Nat) (hg : Bk w g 36 (partC p).toArray) (ty : TypeId) (c : Nat) (hsz : l.length + 1 ≤ 1000000) (hbase : base ≤ w.heap.size) :
    ∃ v' w', (Builtin.append_ #[22, 22] ty #[v, .slice (some ⟨g, 0, none⟩) 1 c]).run Try.prog w = .ok v' w' ∧ OwnPP w' base v' (l ++ [p]) ∧ w.grownBy w' v.ownBlock ∧ (v'.ownBlock = v.ownBlock ∨ v'.ownBlock = some w.heap.size) := by
  obtain ⟨i, hi, hii⟩ := Option.map_eq_some_iff.1 infoP
  simp only [Prod.mk.injEq] at hii
  obtain ⟨hsize, hby, hzz⟩ := hii
  obtain ⟨z, hz, hzs⟩ := Option.map_eq_some_iff.1 hzz
  have hplain : ∀ j, (⟨g, 0, none⟩ : Addr).add j = ⟨g, j, none⟩ := fun j => by unfold Addr.add; split <;> simp_all
  obtain ⟨v', w', hrun, h2, h3, _, h5⟩ := run_append_own_at (P := Try.prog) w base 22 ty 36 i z 3 40 Try.underlying22 hi hz hsize hby hzs (by decide) v l.length (rowC l) h ⟨g, 0, none⟩ 1 c (partC p)
    rfl (fun j u hj => by rw [hplain, hg.cell]; simpa using hj) (fun u hu => by simp [partC] at hu; rcases hu with rfl | rfl | rfl <;> rfl) (by simp only [maxLen]; omega) (by omega) hbase
  refine ⟨v', w', hrun, ?_, h3, h5⟩
  unfold OwnPP
  have e : rowC (l ++ [p]) = rowC l ++ partC p := by simp [rowC]
  rw [List.length_append, e]
  exact h2
theorem wp_appPP {o : Oper} {a : Act} {K : Act → World → Prop} {Q : Exit → Act → World → Prop} (s x : Operand)
    (ho : o.op = .call { callee := .builtin .append, args := #[s, x], argTypes := #[22, 22] })
    (h : OwnPP w base v l) (hs : a.eval s = v) (p : PartV) (g c : Nat) (hx : a.eval x = .slice (some ⟨g, 0, none⟩) 1 c) (hg : Bk w g 36 (partC p).toArray)
    (hsz : l.length + 1 ≤ 1000000) (hbase : base ≤ w.heap.size)
    (hK : ∀ A' c' w', OwnPP w' base (.slice A' (l.length + 1) c') (l ++ [p]) → w.grownBy w' v.ownBlock → ((Value.slice A' (l.length + 1) c').ownBlock = v.ownBlock ∨ (Value.slice A' (l.length + 1) c').ownBlock = some w.heap.size) → K (a.put o.dst (.slice A' (l.length + 1) c')) w') : o.wp Try.prog a w K Q := by
  obtain ⟨v', w', hrun, h2, h3, h4⟩ := run_appPP h p g hg o.type c hsz hbase
  obtain ⟨A', c', hv⟩ := h2.form
  rw [List.length_append, List.length_singleton] at hv
  subst hv
  unfold Oper.wp execOp
  simp only [ho, resolve, invoke, builtin, Sem.run_bind, Sem.run_pure, Result.andThen_ok, List.map_toArray, List.map_cons, List.map_nil, hs, hx, hrun]
  exact hK A' c' w' h2 h3 h4
theorem wpList_appPP {ops : Array Oper} {rest : List Oper} {o : Oper} {a : Act} {Q : Exit → Act → World → Prop} (hgd : o.guard = none) (s x : Operand)
    (ho : o.op = .call { callee := .builtin .append, args := #[s, x], argTypes := #[22, 22] })
    (h : OwnPP w base v l) (hs : a.eval s = v) (p : PartV) (g c : Nat) (hx : a.eval x = .slice (some ⟨g, 0, none⟩) 1 c) (hg : Bk w g 36 (partC p).toArray)
    (hsz : l.length + 1 ≤ 1000000) (hbase : base ≤ w.heap.size)
    (hK : ∀ A' c' w', OwnPP w' base (.slice A' (l.length + 1) c') (l ++ [p]) → w.grownBy w' v.ownBlock → ((Value.slice A' (l.length + 1) c').ownBlock = v.ownBlock ∨ (Value.slice A' (l.length + 1) c').ownBlock = some w.heap.size) → wpList Try.prog ops Q rest (a.put o.dst (.slice A' (l.length + 1) c')) w') : wpList Try.prog ops Q (o :: rest) a w :=
  wpList_plain hgd fun _ hk => wp_appPP s x ho h hs p g c hx hg hsz hbase fun A' c' w' h2 h3 h4 => hk _ _ (hK A' c' w' h2 h3 h4)
end
/-- What stands in the loops: the Out, the parts that have been put, their row. -/
def BackS (w : World) (g : Nat) (ps : List PartV) (v : Value) (W : World) : Prop :=
  ∃ F, OutF W g (flatS ps) false F ∧ (∀ k ∈ F, w.heap.size ≤ k) ∧ OwnPP W w.heap.size v ps ∧ (∀ b, v.ownBlock = some b → b ∉ F) ∧ (∀ p ∈ ps, PartOk w w.heap.size p ∧ (partS p).2 = true) ∧ Below w.heap.size w W
end Go.Proofs.Ytjfidfcfhdkciaa
