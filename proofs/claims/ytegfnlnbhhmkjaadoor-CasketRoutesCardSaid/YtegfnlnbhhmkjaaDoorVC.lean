/-
  Merged: Vc Vd.
-/
import Derived.Test.YtegfnlnbhhmkjaaDoorVA
import Derived.Test.YtegfnlnbhhmkjaaDoorQt
import Derived.Test.YtegfnlnbhhmkjaaDoorQc
import Derived.Laws.OwnMore
import Derived.Test.YtegfnlnbhhmkjaaDoorDn
namespace Go.Proofs.YtegfnlnbhhmkjaaDoor
set_option maxRecDepth 100000
open Go.RowKit
set_option linter.unusedVariables false
set_option linter.unusedSimpArgs false

theorem infoSz : ∀ W : World, (sizeOf (Tryd.prog.elem 89)).run Tryd.prog W = .ok 1 W := fun W => by
  have he : Tryd.prog.elem 89 = 39 := by kernel_rfl
  obtain ⟨i, hi, hz, hsize, hby⟩ := info_parts infoSlv
  rw [he]
  simp [sizeOf, typeInfo, hi, hsize]
theorem sliceF_to (g n c : Nat) (k : Nat) (hk : k ≤ c) (W : World) :
    (Instr.slice 89 (.slice (some ⟨g, 0, none⟩) n c) none (some (.int .i64 (k : Int))) none).run Tryd.prog W = .ok (.slice (some ⟨g, 0, none⟩) k c) W := by
  have he : Tryd.prog.elem 89 = 39 := by kernel_rfl
  rw [run_slice_h W 89 (some ⟨g, 0, none⟩) n c (by rw [he]; exact Tryd.underlying89) .i64 k (by omega) (by omega), infoSz]
  simp only [Result.andThen, sliced]
  congr 2
  by_cases h : c = 0
  · rw [if_pos h]
  · rw [if_neg h]; simp [Addr.add]
theorem sliceF_from (g n c k : Nat) (hk : k ≤ n) (W : World) :
    (Instr.slice 89 (.slice (some ⟨g, 0, none⟩) n c) (some (.int .i64 (k : Int))) none none).run Tryd.prog W = .ok (.slice (some ⟨g, if c = k then 0 else k, none⟩) (n - k) (c - k)) W := by
  have he : Tryd.prog.elem 89 = 39 := by kernel_rfl
  rw [run_slice_l W 89 (some ⟨g, 0, none⟩) n c (by rw [he]; exact Tryd.underlying89) .i64 k (by omega) (by omega), infoSz]
  by_cases h : c = k
  · simp [Result.andThen, sliced, h]
  · simp [Result.andThen, sliced, h, Addr.add]
    omega
theorem ownsRow_trim {w : World} {base g n c : Nat} {e : TypeId} {xs : List Value} (h : w.ownsRow base e 1 (.slice (some ⟨g, 0, none⟩) n c) n xs) (k : Nat) (hk : k ≤ n) : w.ownsRow base e 1 (.slice (some ⟨g, 0, none⟩) k c) k (xs.take k) := by
  refine ⟨by rw [List.length_take, h.1]; omega, ?_⟩
  rcases h.2 with ⟨hv, _⟩ | ⟨g', cap, cur, hv, hb, hh, hn, hm, hs, ht⟩
  · cases hv
  · injection hv with e1 e2 e3
    injection e1 with e1
    injection e1 with e1
    subst e1 e3
    exact .inr ⟨g, c, cur, rfl, hb, hh, by omega, hm, hs, by rw [← ht, List.take_take]; congr 1; omega⟩
section
variable {w w' : World} {F : List Nat} {g n c : Nat} {ls : List (List UInt8)}
/-- append(s[:k], s[k+1:]...), in place. -/
theorem run_delF (h : RowF w F (.slice (some ⟨g, 0, none⟩) n c) ls) (hFs : ∀ k ∈ F, k < w.heap.size) (hn : ls.length = n) (hnc : n ≤ c) (k : Nat) (hk : k < n) (c2 : Nat) (ty : TypeId) :
    ∃ w', (Builtin.append_ #[89, 89] ty #[.slice (some ⟨g, 0, none⟩) k c, .slice (some ⟨g, if c = k + 1 then 0 else k + 1, none⟩) (n - (k + 1)) c2]).run Tryd.prog w = .ok (.slice (some ⟨g, 0, none⟩) (n - 1) c) w' ∧ RowF w' F (.slice (some ⟨g, 0, none⟩) (n - 1) c) (ls.eraseIdx k) ∧ w.grownBy w' (some g) := by
  have hty := h.ty
  obtain ⟨vs, h1, h2, h3⟩ := h
  rw [hn] at h1
  have hvl : vs.length = n := by have := h1.1; omega
  obtain ⟨i, hi, hz, hsize, hby⟩ := info_parts infoSlv
  have h4 := ownsRow_trim h1 k (by omega)
  have hnew : ∀ j u, (vs.drop (k + 1))[j]? = some u → w.cell? ((⟨g, if c = k + 1 then 0 else k + 1, none⟩ : Addr).add j) = some u := fun j u hu => by
    have hj : j < n - (k + 1) := by
      have := (List.getElem?_eq_some_iff.1 hu).1
      rw [List.length_drop] at this
      omega
    rw [if_neg (by omega)]
    have hp : (⟨g, k + 1, none⟩ : Addr).add j = ⟨g, k + 1 + j, none⟩ := by unfold Addr.add; split <;> simp_all
    rw [hp, World.ownsRow.cellAt h1 (k + 1 + j) (by omega), ← hu, List.getElem?_drop]
  have h1c : ∀ u ∈ vs.drop (k + 1), u.oneCell' = true := fun u hu => by
    obtain ⟨j, hj, e⟩ := List.mem_iff_getElem.1 (List.mem_of_mem_drop hu)
    obtain ⟨u', hu', A, c', e', _⟩ := h3 j (by omega)
    rw [List.getElem?_eq_getElem hj, e] at hu'
    obtain rfl := Option.some.inj hu'
    rw [e']; rfl
  obtain ⟨w', hrun, h5, h6⟩ := run_append_fits (P := Tryd.prog) w 0 89 ty 39 i 1 Tryd.underlying89 hi hsize g k c (vs.take k) h4 ⟨g, if c = k + 1 then 0 else k + 1, none⟩ (n - (k + 1)) c2 (vs.drop (k + 1))
      (by rw [List.length_drop]; omega) hnew h1c (by omega)
  have e1 : k + (n - (k + 1)) = n - 1 := by omega
  rw [e1] at hrun h5
  have hkeep : Keeps8 F w w' := keeps_of h6 hFs fun g' e => by
    injection e with e
    subst e
    obtain ⟨cs, hh⟩ := hty g rfl
    exact ⟨cs, (0, 0), 39, by decide, hh⟩
  have hel : (ls.eraseIdx k).length = n - 1 := by rw [List.length_eraseIdx, if_pos (by omega)]; omega
  refine ⟨w', hrun, ⟨vs.take k ++ vs.drop (k + 1), by rw [hel]; exact h5, h2, fun j hj => ?_⟩, h6⟩
  rw [hel] at hj
  rw [← List.eraseIdx_eq_take_drop_succ, List.getElem?_eraseIdx, List.getD_eq_getElem?_getD, List.getElem?_eraseIdx]
  split
  · obtain ⟨u, hu, hb⟩ := h3 j (by omega)
    exact ⟨u, hu, by rw [← List.getD_eq_getElem?_getD]; exact hb.keep hkeep fun k hk => hk⟩
  · obtain ⟨u, hu, hb⟩ := h3 (j + 1) (by omega)
    exact ⟨u, hu, by rw [← List.getD_eq_getElem?_getD]; exact hb.keep hkeep fun k hk => hk⟩
/-- clear(s[m:m+1]). -/
theorem run_clrF (h : RowF w F (.slice (some ⟨g, 0, none⟩) n c) ls) (hFs : ∀ k ∈ F, k < w.heap.size) (hn : ls.length = n) (hnc : n < c) (c' : Nat) (ty : TypeId) :
    ∃ w', (Builtin.clear_ #[89] ty #[.slice (some ⟨g, n, none⟩) 1 c']).run Tryd.prog w = .ok (.tuple #[]) w' ∧ RowF w' F (.slice (some ⟨g, 0, none⟩) n c) ls ∧ w.grownBy w' (some g) := by
  have hty := h.ty
  obtain ⟨vs, h1, h2, h3⟩ := h
  rw [hn] at h1
  rcases h1.2 with ⟨hv, _⟩ | ⟨g', cap, cur, hv, hb, hg, hn', hm, hs, ht⟩
  · cases hv
  · injection hv with e1 e2 e3
    injection e1 with e1
    injection e1 with e1
    subst e1 e3
    have hst := storeCells_mark Tryd.prog g n 39 (0, 0) [Value.slice none 0 0] 0 cur w hg (fun j _ hj => by omega) (by simp; omega) (by intro v hv; simp at hv; subst hv; rfl)
    rw [Nat.add_zero] at hst
    have hgr : w.grownBy (w.setRow g (cur.toList.take n ++ [Value.slice none 0 0] ++ cur.toList.drop (n + [Value.slice none 0 0].length)).toArray) (some g) := grown_row (World.grownBy.refl w _) _
    have hkeep : Keeps8 F w _ := keeps_of hgr hFs fun g' e => by
      injection e with e
      subst e
      exact ⟨cur, (0, 0), 39, by decide, hg⟩
    refine ⟨_, ?_, ⟨vs, ?_, h2, fun j hj => ?_⟩, hgr⟩
    · obtain ⟨i, hi, hz, hsize, hby⟩ := info_parts infoSlv
      simp [Builtin.clear_, run_underlying Tryd.underlying89, zeroValue, typeInfo, hi, hz, Builtin.zeroCells, Value.cells, hst]
    · rw [hn]
      refine ⟨h1.1, .inr ⟨g, c, _, rfl, hb, setRow_heap w g cur _ 39 (0, 0) hg, by omega, hm, ?_, ?_⟩⟩
      · simp; omega
      · rw [← ht]
        simp only [Nat.mul_one, List.append_assoc]
        rw [List.take_append_of_le_length (by simp; omega), List.take_take, Nat.min_self]
    · obtain ⟨u, hu, hb⟩ := h3 j hj
      exact ⟨u, hu, hb.keep hkeep fun k hk => hk⟩
theorem wpList_delF {ops : Array Oper} {rest : List Oper} {o : Oper} {a : Act} {Q : Exit → Act → World → Prop} (hgd : o.guard = none) (s x : Operand)
    (ho : o.op = .call { callee := .builtin .append, args := #[s, x], argTypes := #[89, 89] })
    (h : RowF w F (.slice (some ⟨g, 0, none⟩) n c) ls) (hFs : ∀ k ∈ F, k < w.heap.size) (hn : ls.length = n) (hnc : n ≤ c) (k : Nat) (hk : k < n) (c2 : Nat) (hs : a.eval s = .slice (some ⟨g, 0, none⟩) k c) (hx : a.eval x = .slice (some ⟨g, if c = k + 1 then 0 else k + 1, none⟩) (n - (k + 1)) c2)
    (hK : ∀ w', RowF w' F (.slice (some ⟨g, 0, none⟩) (n - 1) c) (ls.eraseIdx k) → w.grownBy w' (some g) → wpList Tryd.prog ops Q rest (a.put o.dst (.slice (some ⟨g, 0, none⟩) (n - 1) c)) w') : wpList Tryd.prog ops Q (o :: rest) a w := by
  refine wpList_plain hgd fun _ hk' => ?_
  obtain ⟨w', hrun, h1, h2⟩ := run_delF h hFs hn hnc k hk c2 o.type
  unfold Oper.wp execOp
  simp only [ho, resolve, invoke, builtin, Sem.run_bind, Sem.run_pure, Result.andThen_ok, List.map_toArray, List.map_cons, List.map_nil, hs, hx, hrun]
  exact hk' _ _ (hK w' h1 h2)
theorem wpList_clrF {ops : Array Oper} {rest : List Oper} {o : Oper} {a : Act} {Q : Exit → Act → World → Prop} (hgd : o.guard = none) (x : Operand)
    (ho : o.op = .call { callee := .builtin .clear, args := #[x], argTypes := #[89] })
    (h : RowF w F (.slice (some ⟨g, 0, none⟩) n c) ls) (hFs : ∀ k ∈ F, k < w.heap.size) (hn : ls.length = n) (hnc : n < c) (c' : Nat) (hx : a.eval x = .slice (some ⟨g, n, none⟩) 1 c')
    (hK : ∀ w', RowF w' F (.slice (some ⟨g, 0, none⟩) n c) ls → w.grownBy w' (some g) → wpList Tryd.prog ops Q rest (a.put o.dst (.tuple #[])) w') : wpList Tryd.prog ops Q (o :: rest) a w := by
  refine wpList_plain hgd fun _ hk' => ?_
  obtain ⟨w', hrun, h1, h2⟩ := run_clrF h hFs hn hnc c' o.type
  unfold Oper.wp execOp
  simp only [ho, resolve, invoke, builtin, Sem.run_bind, Sem.run_pure, Result.andThen_ok, List.map_toArray, List.map_cons, List.map_nil, hx, hrun]
  exact hk' _ _ (hK w' h1 h2)
end

theorem dec_succ (k : Nat) : decide ((k : Int) = (k : Int) + 1) = false := decide_eq_false (by omega)
set_option maxRecDepth 100000 in
set_option maxHeartbeats 4000000 in
theorem delete_any {w : World} {F : List Nat} {g m c : Nat} {ls : List (List UInt8)} (h : RowF w F (.slice (some ⟨g, 0, none⟩) (m + 1) c) ls) (hFs : ∀ k ∈ F, k < w.heap.size) (hn : ls.length = m + 1) (hnc : m + 1 ≤ c) (hn6 : m ≤ 1000000) (k : Nat) (hk : k < m + 1) :
    Calls Tryd.prog 34 #[.slice (some ⟨g, 0, none⟩) (m + 1) c, .int .i64 (k : Int), .int .i64 ((k : Int) + 1)] w fun e w' => e = .returned (.slice (some ⟨g, 0, none⟩) m c) ∧ RowF w' F (.slice (some ⟨g, 0, none⟩) m c) (ls.eraseIdx k) ∧ w.grownBy w' (some g) := by
  have hs1 := fun W => sliceF_to g (m + 1) c k (by omega) W
  have hs2 := fun W => sliceF_from g (m + 1) c (k + 1) (by omega) W
  rw [show (((k + 1 : Nat)) : Int) = (k : Int) + 1 by omega] at hs2
  obtain ⟨q, hq⟩ : ∃ q, m + 1 - (k + 1) = q := ⟨_, rfl⟩
  obtain ⟨r, hr⟩ : ∃ r, c - (k + 1) = r := ⟨_, rfl⟩
  obtain ⟨o, ho⟩ : ∃ o, (if c = k + 1 then 0 else k + 1) = o := ⟨_, rfl⟩
  rw [hq, hr, ho] at hs2
  have HQ := hidv_ hq
  have HO := hidv_ ho
  have HH := hidv_ h
  have HFS := hidv_ hFs
  have HN := hidv_ hn
  have hlt := (h.lt g rfl).1
  have HEL := hidv_ (show (ls.eraseIdx k).length = m by rw [List.length_eraseIdx, if_pos (by omega)]; omega)
  clear h hFs hn hq hr ho
  go_enter Tryd.func34, Tryd.ntmps34
  go_upto_region 5 with fail
  refine region_quiet_tail_lit 6 (by kernel_rfl) (by kernel_rfl) ?_
  simp only [List.take_succ_cons, List.take_zero]
  repeat (go_big_quiet_want; (first
    | (refine BigFrame.quiet_move _ rfl ?_; go_simp)
    | (refine quiet_run (.slice (some ⟨g, 0, none⟩) k c) ?_ ?_; (focus (intro W hW; have h := hs1 W; go_simp; done)); go_simp)
    | (refine quiet_run (.slice (some ⟨g, o, none⟩) q r) ?_ ?_; (focus (intro W hW; have h := hs2 W; go_simp; done)); go_simp)); go_big_quiet_on)
  refine wpQuiet_nil ?_
  intro w1 hw1
  obtain ⟨nq, rfl⟩ := hw1
  simp only [List.drop_succ_cons, List.drop_zero]
  have HG0 := hidv_ (grown_drewN (World.grownBy.refl w (some g)) nq)
  have HW : Hid (RowF (w.drewN nq) F (.slice (some ⟨g, 0, none⟩) (m + 1) c) ls) := hidv_ HH.out
  have HF2 : Hid (∀ k ∈ F, k < (w.drewN nq).heap.size) := hidv_ HFS.out
  generalize w.drewN nq = wd at *
  clear hs1 hs2
  go_wp2_with (first
    | (at_builtin; refine wpList_delF rfl (.tmp 22) (.tmp 25) rfl HW.out HF2.out HN.out hnc k hk r rfl (by rw [HQ.out, HO.out]; rfl) ?_; intro w2 h2 g2; rw [Nat.add_sub_cancel] at *; have H2 := hidv_ h2; have G2 := hidv_ g2; clear h2 g2)
    | (refine wpList_clrF rfl (.tmp 31) rfl H2.out (fun k hk => Nat.lt_of_lt_of_le (HF2.out k hk) G2.out.size) HEL.out (by omega) (c - m) rfl ?_; intro w3 h3 g3; have H3 := hidv_ h3; have G3 := hidv_ g3; clear h3 g3))
  go_ret
  exact ⟨rfl, H3.out, ⟨G3.out.os.trans (G2.out.os.trans HG0.out.os), G3.out.tape.trans (G2.out.tape.trans HG0.out.tape), G3.out.output.trans (G2.out.output.trans HG0.out.output), Nat.le_trans HG0.out.size (Nat.le_trans G2.out.size G3.out.size), fun i hi hne => (G3.out.block i (Nat.lt_of_lt_of_le hi (Nat.le_trans HG0.out.size G2.out.size)) hne).trans ((G2.out.block i (Nat.lt_of_lt_of_le hi HG0.out.size) hne).trans (HG0.out.block i hi hne))⟩⟩
end Go.Proofs.YtegfnlnbhhmkjaaDoor

namespace Go.Proofs.YtegfnlnbhhmkjaaDoor
set_option maxRecDepth 100000
open Go.RowKit
set_option linter.unusedVariables false
set_option linter.unusedSimpArgs false

theorem Own8.rdf {w : World} {base n c : Nat} {A : Option Addr} {m : List UInt8} {F : List Nat} (h : Own8 w base (.slice A n c) m) (hF : ∀ k ∈ F, k < base) : RdF w F A m := fun h0 => by
  have hrd := h.rd
  obtain ⟨b, off, e, hb, hc⟩ := hrd.1 h0
  subst e
  have := (h.form.choose_spec.choose_spec.2.2 b rfl).1
  exact ⟨b, off, rfl, fun hm => by have := hF b hm; omega, hb, hc⟩
/-- What a message that was taken leaves of the boxes. -/
def takeL (L : List (List (List UInt8))) (k i : Nat) : List (List (List UInt8)) := (L.set (k * 2) ((L.getD (k * 2) []).eraseIdx i)).set (k * 2 + 1) (L.getD (k * 2 + 1) [] ++ [(L.getD (k * 2) []).getD i []])
/-- A message that was taken. -/
def TakeP (w : World) (p q n : Nat) (L : List (List (List UInt8))) (F : List Nat) (r : Nat) (m : List UInt8) (e : Ending) (w' : World) : Prop :=
  ∃ A c F', e = .returned (.tuple #[.slice A r c, .int .i64 0]) ∧ Own8 w' w.heap.size (.slice A r c) m ∧ RdF w' F' A m ∧ NetF w' p q n L F' ∧ Grew w F F' ∧ Untouched F w w'

set_option maxRecDepth 100000 in
set_option maxHeartbeats 8000000 in
theorem take_yes {w : World} {p q n : Nat} {L : List (List (List UInt8))} {F : List Nat} (h : NetF w p q n L F) (k : Nat) (hk : k < n) (i : Nat) (hi : i < (L.getD (k * 2) []).length) (hl6 : (L.getD (k * 2) []).length ≤ 1000000) (ht6 : (L.getD (k * 2 + 1) []).length + 1 ≤ 1000000) (r : Nat) (hr0 : ((L.getD (k * 2) []).getD i []).length = r) (hr7 : r ≤ 140737488355328) :
    Calls Tryd.prog 11 #[.pointer (some ⟨p, 0, none⟩), .int .i64 (k : Int), .int .i64 (i : Int)] w (TakeP w p q n (takeL L k i) F r ((L.getD (k * 2) []).getD i [])) := by
  obtain ⟨A, c, hc, hrow, hcl, hcm⟩ := h.at_ (k * 2) (by omega)
  have ci := inbox_yes h k hk
  obtain ⟨l, hl⟩ : ∃ l, L.getD (k * 2) [] = l := ⟨_, rfl⟩
  unfold takeL
  rw [hl] at hc hrow hcl hi hl6 hr0 ⊢
  obtain ⟨m, hm⟩ : ∃ m, l.length = m + 1 := ⟨l.length - 1, by omega⟩
  rw [hm] at hc hrow hcl hi hl6
  obtain ⟨g, u, rfl, hcu, hbu, hgl⟩ := hrow.cell i (by rw [hm]; exact hi)
  obtain ⟨Au, cu, rfl, _, _, _⟩ := hbu.rd
  rw [hr0] at hcu hbu
  have ch := has_any (w := w) q (k * 2) _ _ _ hc (i : Int)
  have d1 : decide (0 ≤ (i : Int)) = true := decide_eq_true (by omega)
  have d2 : decide ((i : Int) < ((m + 1 : Nat) : Int)) = true := decide_eq_true (by omega)
  rw [d1, d2] at ch
  have cd := delete_any hrow h.hF hm hcl (by omega) i hi
  have e1 : IntKind.i64.wrap ((i : Int) + 1) = (i : Int) + 1 := IntWalk.i64_in _ (by omega)
  have t0 : (0 : Int) ≤ (i : Int) := by omega
  have tn : (i : Int) < ((m + 1 : Nat) : Int) := by omega
  obtain ⟨msg, hmsg⟩ : ∃ x, l.getD i [] = x := ⟨_, rfl⟩
  rw [hmsg] at hr0 hbu ⊢
  obtain ⟨t, ht⟩ : ∃ t, L.getD (k * 2 + 1) [] = t := ⟨_, rfl⟩
  rw [ht] at ht6 ⊢
  obtain ⟨b, hb⟩ : ∃ b, t.length = b := ⟨_, rfl⟩
  rw [hb] at ht6
  have HT := hidv_ ht
  have HBL := hidv_ hb
  have HH := hidv_ h
  have HC := hidv_ hc
  have HB := hidv_ hbu
  have HM := hidv_ hm
  have HR0 := hidv_ hr0
  have HT6 := hidv_ ht6
  clear h hbu hm hr0 hmsg hl hrow d2 ht6 ht hb
  go_enter Tryd.func11, Tryd.ntmps11
  go_upto_region 8 with (first
    | (go_at_call 30; ((with_reducible refine ci.mono ?_); clear ci; rintro e w' ⟨rfl, rfl⟩))
    | (go_at_call 33; ((with_reducible refine ch.mono ?_); clear ch; rintro e w' ⟨rfl, rfl⟩))
    | (go_at_call 34; ((with_reducible refine cd.mono ?_); clear cd; rintro e w1 ⟨rfl, h1, h2⟩; obtain ⟨hput, hpc, hpf⟩ := HH.out.put (k * 2) (by omega) HC.out h2 (F' := F) (fun k hk => hk) (fun k hk => Nat.lt_of_lt_of_le (HH.out.hF k hk) h2.size) h1 (.inr (.inl rfl)); have HP1 := hidv_ hput; clear hput h1 h2)))
  clear hpc hpf hc hcu d1 e1 t0 tn
  obtain ⟨w2, hw2⟩ : ∃ x, w1.setCell ⟨q, k * 2, none⟩ (.slice (some ⟨g, 0, none⟩) m c) = x := ⟨_, rfl⟩
  rw [hw2] at HP1 ⊢
  clear hw2
  obtain ⟨A2, c2, hc2, hr2, hl2, hm2⟩ := HP1.out.1.at_ (k * 2 + 1) (by omega)
  rw [show (L.set (k * 2) (l.eraseIdx i)).getD (k * 2 + 1) [] = L.getD (k * 2 + 1) [] by simp [List.getD], HT.out, HBL.out] at hc2 hr2 hl2
  obtain ⟨wa, hwa⟩ : ∃ x, w2.alloc (.cells #[.slice Au r cu] 39) = x := ⟨_, rfl⟩
  obtain ⟨a1, a2, a3, a4, a5, a6, a7⟩ := HP1.out.1.laid (by omega) hc2 hr2 (HB.out.keep HP1.out.2.2 (fun k hk => hk)) hwa
  have HA1 := hidv_ a1
  have HA2 := hidv_ a2
  have HA3 := hidv_ a3
  have HA4 := hidv_ a4
  have HA5 := hidv_ a5
  have HA6 := hidv_ a6
  have HA7 := hidv_ a7
  clear a1 a2 a3 a4 a5 a6 a7 hr2 hl2
  go_upto_region 9 with (at_builtin; refine wpList_appF rfl (.tmp 41) (.tmp 43) rfl HA4.out HA2.out.hF rfl w2.heap.size 1 rfl (.slice Au r cu) rfl HA6.out HA5.out b HBL.out HT6.out ?_; intro A' c' w3 k1 k2 k3 k4; obtain ⟨hput, hpc, hpf⟩ := HA2.out.put (k * 2 + 1) (by omega) HA3.out k2 (F' := sincev F wa w3) (fun k hk => mem_since.2 (.inl hk)) (since_lt HA2.out.hF k2.size) k1 (k4.elim (fun e => .inr (.inl e)) (fun e => .inr (.inr ⟨_, e, Nat.le_refl _⟩))); have HP2 := hidv_ hput; clear hput k1 k2 k3 k4)
  clear hpc hpf
  obtain ⟨w4, hw4⟩ : ∃ x, w3.setCell ⟨q, k * 2 + 1, none⟩ (.slice A' (b + 1) c') = x := ⟨_, rfl⟩
  rw [hw4] at HP2 ⊢
  clear hw4 hwa hc2
  have cc := clone_any Au r cu msg w4 HR0.out (HA5.out.keep HP2.out.2.2 (F' := F) (fun k hk => hk)).rd2.2 hr7
  go_wp2_with (go_at_call 32; ((with_reducible refine cc.mono ?_); clear cc; rintro e w5 ⟨A5, c5, rfl, ho, hb⟩; have HO5 := hidv_ ho; have HB5 := hidv_ hb; clear ho hb))
  go_ret2
  have u1 := HP1.out.2.1
  have u2 := (Untouched.of_below (F := F) HA1.out).trans (Grew.refl _ _) HP2.out.2.1
  have g3 : Grew w F (sincev F wa w3) := fun k hk => (grew_since F wa w3 k hk).imp id (fun h => Nat.le_trans (Nat.le_trans u1.size HA1.out.size) h)
  have u12 := u1.trans (Grew.refl _ _) u2
  exact ⟨A5, c5, sincev F wa w3, rfl, HO5.out.lower u12.size, HO5.out.rdf HP2.out.1.hF, HP2.out.1.below HB5.out, g3, u12.trans (Grew.refl _ _) (Untouched.of_below HB5.out)⟩
end Go.Proofs.YtegfnlnbhhmkjaaDoor
