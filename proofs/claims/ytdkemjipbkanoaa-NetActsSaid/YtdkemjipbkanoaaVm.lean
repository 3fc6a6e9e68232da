/-
  The reference's net: DocCopy; what DocTake stands on.
-/
import Derived.Test.YtdkemjipbkanoaaVl
namespace Go.Proofs.Ytdkemjipbkanoaa
open Go.RowKit
set_option linter.unusedVariables false
set_option linter.unusedSimpArgs false

set_option maxRecDepth 100000 in
set_option maxHeartbeats 4000000 in
theorem rcopy_yes {w : World} {p q s n : Nat} {Z : List (List (List UInt8))} {F : List Nat} (h : RefF w p q s n Z F) (k : Nat) (hk : k < n) (i : Nat) (hi : i < (Z.getD k []).length) :
    Calls Try.prog 18 #[.pointer (some ⟨p, 0, none⟩), .int .i64 (k : Int), .int .i64 (i : Int)] w (RefP w p q s n (sendZ Z k ((Z.getD k []).getD i [])) F (sendE Z k)) := by
  have hn := h.hn
  obtain ⟨A, c, hc, hr, hcl, hcm⟩ := h.lo k hk
  have ci := rbox_yes h k hk
  have cs := rsend_yes h k hk ((Z.getD k []).getD i [])
  have hp := h.bp.cell 0
  simp only [List.getElem?_toArray, List.getElem?_cons_zero] at hp
  obtain ⟨g, rfl, hcx, _⟩ := hr.cell i hi
  generalize ((Z.getD k []).getD i []) = m at *
  generalize sendZ Z k m = Z' at *
  generalize sendE Z k = z at *
  generalize (Z.getD k []).length = r at *
  have d1 : decide ((i : Int) < 0) = false := decide_eq_false (by omega)
  have d2 : decide ((r : Int) ≤ (i : Int)) = false := decide_eq_false (by omega)
  have d3 : decide (r ≤ i) = false := decide_eq_false (by omega)
  have tn : decide ((i : Int) < (r : Int)) = true := decide_eq_true (by omega)
  clear h hr
  go_enter Try.func18, Try.ntmps18
  go_wp2_with (first
    | (go_at_call 24; ((with_reducible refine ci.mono ?_); clear ci; rintro e w' ⟨rfl, rfl⟩))
    | (go_at_call 16; ((with_reducible refine cs.mono ?_); clear cs; rintro e w2 ⟨rfl, hh⟩; have HH := hidv_ hh; clear hh)))
  go_ret
  exact ⟨rfl, HH.out⟩
theorem wp_appStr {w : World} {F : List Nat} {v : Value} {ls : List (List UInt8)} {o : Oper} {a : Act} {K : Act → World → Prop} {Q : Exit → Act → World → Prop} (s x : Operand)
    (ho : o.op = .call { callee := .builtin .append, args := #[s, x], argTypes := #[46, 46] })
    (h : RowS w F v ls) (hs : a.eval s = v) (g0 c : Nat) (hx : a.eval x = .slice (some ⟨g0, 0, none⟩) 1 c) (m : List UInt8) (hc : w.cell? ⟨g0, 0, none⟩ = some (.string (strOf m)))
    (nl : Nat) (hnl : ls.length = nl) (hsz : nl + 1 ≤ 1000000)
    (hK : ∀ A' c' w', RowS w' (since F w w') (.slice A' (nl + 1) c') (ls ++ [m]) → w.grownBy w' v.ownBlock → ((Value.slice A' (nl + 1) c').ownBlock = v.ownBlock ∨ (Value.slice A' (nl + 1) c').ownBlock = some w.heap.size) → K (a.put o.dst (.slice A' (nl + 1) c')) w') : o.wp Try.prog a w K Q := by
  subst hnl
  obtain ⟨v', w', hrun, h2, h3, h5⟩ := run_appStr h ⟨g0, 0, none⟩ [m] (fun j hj => by obtain rfl : j = 0 := (by simpa using hj); exact hc) 1 rfl o.type c hsz
  obtain ⟨A', c', hv, _⟩ := h2.form
  rw [List.length_append, List.length_singleton] at hv
  subst hv
  unfold Oper.wp execOp
  simp only [ho, resolve, invoke, builtin, Sem.run_bind, Sem.run_pure, Result.andThen_ok, List.map_toArray, List.map_cons, List.map_nil, hs, hx, hrun]
  exact hK A' c' w' h2 h3 h5
theorem wpList_appStr {w : World} {F : List Nat} {v : Value} {ls : List (List UInt8)} {ops : Array Oper} {rest : List Oper} {o : Oper} {a : Act} {Q : Exit → Act → World → Prop} (hgd : o.guard = none) (s x : Operand)
    (ho : o.op = .call { callee := .builtin .append, args := #[s, x], argTypes := #[46, 46] })
    (h : RowS w F v ls) (hs : a.eval s = v) (g0 c : Nat) (hx : a.eval x = .slice (some ⟨g0, 0, none⟩) 1 c) (m : List UInt8) (hc : w.cell? ⟨g0, 0, none⟩ = some (.string (strOf m)))
    (nl : Nat) (hnl : ls.length = nl) (hsz : nl + 1 ≤ 1000000)
    (hK : ∀ A' c' w', RowS w' (since F w w') (.slice A' (nl + 1) c') (ls ++ [m]) → w.grownBy w' v.ownBlock → ((Value.slice A' (nl + 1) c').ownBlock = v.ownBlock ∨ (Value.slice A' (nl + 1) c').ownBlock = some w.heap.size) → wpList Try.prog ops Q rest (a.put o.dst (.slice A' (nl + 1) c')) w') : wpList Try.prog ops Q (o :: rest) a w :=
  wpList_plain hgd fun _ hk => wp_appStr s x ho h hs g0 c hx m hc nl hnl hsz fun A' c' w' h2 h3 h5 => hk _ _ (hK A' c' w' h2 h3 h5)
theorem infoSt : ∀ W : World, (sizeOf (Try.prog.elem 46)).run Try.prog W = .ok 1 W := fun W => by
  have he : Try.prog.elem 46 = 9 := by kernel_rfl
  obtain ⟨i, hi, hz, hsize, hby⟩ := info_parts infoStr
  rw [he]
  simp [sizeOf, typeInfo, hi, hsize]
theorem sliceS_to (g n c : Nat) (k : Nat) (hk : k ≤ c) (W : World) :
    (Instr.slice 46 (.slice (some ⟨g, 0, none⟩) n c) none (some (.int .i64 (k : Int))) none).run Try.prog W = .ok (.slice (some ⟨g, 0, none⟩) k c) W := by
  have he : Try.prog.elem 46 = 9 := by kernel_rfl
  rw [run_slice_h W 46 (some ⟨g, 0, none⟩) n c (by rw [he]; exact Try.underlying46) .i64 k (by omega) (by omega), infoSt]
  simp only [Result.andThen, sliced]
  congr 2
  by_cases h : c = 0
  · rw [if_pos h]
  · rw [if_neg h]; simp [Addr.add]
theorem sliceS_from (g n c k : Nat) (hk : k ≤ n) (W : World) :
    (Instr.slice 46 (.slice (some ⟨g, 0, none⟩) n c) (some (.int .i64 (k : Int))) none none).run Try.prog W = .ok (.slice (some ⟨g, if c = k then 0 else k, none⟩) (n - k) (c - k)) W := by
  have he : Try.prog.elem 46 = 9 := by kernel_rfl
  rw [run_slice_l W 46 (some ⟨g, 0, none⟩) n c (by rw [he]; exact Try.underlying46) .i64 k (by omega) (by omega), infoSt]
  by_cases h : c = k
  · simp [Result.andThen, sliced, h]
  · simp [Result.andThen, sliced, h, Addr.add]
    omega
/-- Both halves of a row, without what lies between them. -/
theorem RowS.halves {w : World} {F : List Nat} {g n c : Nat} {t1 t2 : List (List UInt8)} {x : List UInt8} (h : RowS w F (.slice (some ⟨g, 0, none⟩) n c) (t1 ++ x :: t2)) (hc : t1.length + 1 + t2.length ≤ c) :
    SrcS w (some ⟨g, 0, none⟩) t1 ∧ SrcS w (some ⟨g, if c = t1.length + 1 then 0 else t1.length + 1, none⟩) t2 := by
  have hcell : ∀ j, j < (t1 ++ x :: t2).length → w.cell? ⟨g, j, none⟩ = some (.string (strOf ((t1 ++ x :: t2).getD j []))) := fun j hj => by
    obtain ⟨g', e', hc, _⟩ := h.cell j hj
    injection e' with e'
    injection e' with e'
    subst e'
    exact hc
  constructor
  · refine fun h0 => ⟨_, rfl, fun j hj => ?_⟩
    have e : (⟨g, 0, none⟩ : Addr).add j = ⟨g, j, none⟩ := by
      unfold Addr.add
      split <;> simp_all
    rw [e, hcell j (by simp; omega)]
    simp [List.getD, List.getElem?_append_left hj]
  · refine fun h0 => ⟨_, rfl, fun j hj => ?_⟩
    rw [if_neg (by omega)]
    have e : (⟨g, t1.length + 1, none⟩ : Addr).add j = ⟨g, t1.length + 1 + j, none⟩ := by
      unfold Addr.add
      split <;> simp_all
    rw [e, hcell _ (by simp; omega)]
    have : (t1 ++ x :: t2).getD (t1.length + 1 + j) [] = t2.getD j [] := by
      rw [show t1.length + 1 + j = t1.length + (1 + j) by omega]
      simp [List.getD, List.getElem?_append_right, Nat.add_comm 1 j]
    rw [this]
end Go.Proofs.Ytdkemjipbkanoaa
