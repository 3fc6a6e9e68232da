/-
  The document's vault: what lies behind its pointer.
-/
import Derived.Test.YtmomnfhoeabdnaaDoorYJ
namespace Go.Proofs.YtmomnfhoeabdnaaDoor
set_option maxRecDepth 100000
open Go.ChangeShapes Go.WideShapes Go.ChangeAt Go.RowKit
set_option linter.unusedVariables false
set_option linter.unusedSimpArgs false

theorem hidza_ {p : Prop} (h : p) : Hid p := h
theorem bk_ne {w : World} {a b : Nat} {t t' : TypeId} {cs cs' : Array Value} (h : Bk w a t cs) (h' : Bk w b t' cs') (ht : t ≠ t') : a ≠ b := by
  rintro rfl
  have e := Option.some.inj ((show w.heap[a]? = some (.cells cs t (0, 0)) from h).symm.trans (show w.heap[a]? = some (.cells cs' t' (0, 0)) from h'))
  injection e with _ e2 _
  exact ht e2
/-- A sealing's six cells. -/
def slR (t : SealV) : Array Value := #[.int .i64 (t.e : Int), .int .i64 (t.c : Int), .int .i64 (t.n : Int), .string (strOf t.x), .string (strOf t.b), .string (strOf t.s)]
def slC (l : List SealV) : List Value := l.flatMap fun t => (slR t).toList
theorem slC_len (l : List SealV) : (slC l).length = l.length * 6 := by
  induction l with
  | nil => rfl
  | cons p l ih =>
    have e : slC (p :: l) = (slR p).toList ++ slC l := rfl
    have h3 : (slR p).toList.length = 6 := rfl
    rw [e, List.length_append, ih, List.length_cons, h3]
    omega
theorem slC_at : ∀ (l : List SealV) (k j : Nat) (h : k < l.length), j < 6 → (slC l)[k * 6 + j]? = (slR l[k])[j]?
  | [], _, _, h, _ => absurd h (by simp)
  | p :: l, 0, j, _, hj => by
    have e : slC (p :: l) = (slR p).toList ++ slC l := rfl
    have h3 : (slR p).toList.length = 6 := rfl
    rw [e, List.getElem?_append_left (by omega)]
    simp
  | p :: l, k + 1, j, h, hj => by
    have ih := slC_at l k j (by simpa using h) hj
    have e : slC (p :: l) = (slR p).toList ++ slC l := rfl
    have h3 : (slR p).toList.length = 6 := rfl
    rw [e, List.getElem?_append_right (by omega), h3, show (k + 1) * 6 + j - 6 = k * 6 + j by omega, ih]
    simp
section
variable {w w' : World} {base : Nat} {v : Value} {l : List SealV} {F : List Nat}
theorem slR_one (t : SealV) : ∀ u ∈ (slR t).toList, u.oneCell' = true := fun u hu => by
  simp [slR] at hu
  rcases hu with rfl | rfl | rfl | rfl | rfl | rfl <;> rfl
end
theorem tyN {w : World} {b : Nat} {v : Value} {l : List (List UInt8)} (h : OwnN w b v l) : ∀ g, v.ownBlock = some g → g < w.heap.size ∧ ∃ cs, Bk w g 9 cs := fun g e => by
  refine ⟨(World.ownsRow.lt h g e).2, ?_⟩
  rcases h.2 with ⟨rfl, _⟩ | ⟨g', cap, cur, rfl, _, hh, _⟩
  · cases e
  · injection e with e
    simp only at e
    subst e
    exact ⟨_, hh⟩
/-- An append that is known: what it leaves. -/
theorem wpList_appRun {P : Program} {ops : Array Oper} {rest : List Oper} {o : Oper} {a : Act} {w w' : World} {Q : Exit → Act → World → Prop} (hgd : o.guard = none) (T : Array TypeId) (s x : Operand) (ho : o.op = .call { callee := .builtin .append, args := #[s, x], argTypes := T }) (u v r : Value) (hs : a.eval s = u) (hx : a.eval x = v)
    (hrun : (Builtin.append_ T o.type #[u, v]).run P w = .ok r w') (hk : wpList P ops Q rest (a.put o.dst r) w') : wpList P ops Q (o :: rest) a w :=
  wpList_plain hgd fun _ h => by
    unfold Oper.wp execOp
    simp only [ho, resolve, invoke, builtin, Sem.run_bind, Sem.run_pure, Result.andThen_ok, List.map_toArray, List.map_cons, List.map_nil, hs, hx, hrun]
    exact h _ _ hk
section
variable {w w' : World} {g : Nat} {id : Bool} {K : List UInt8} {vn vl vn' vl' : Value} {N N' : List (List UInt8)} {L L' : List SealV} {G F : List Nat}
end
end Go.Proofs.YtmomnfhoeabdnaaDoor
