/-
  slices.Delete of one message out of a row.
-/
import Derived.Test.YtdkemjipbkanoaaVb
import Derived.Test.YtdkemjipbkanoaaQt
import Derived.Test.YtdkemjipbkanoaaQc
import Derived.Laws.OwnMore
namespace Go.Proofs.Ytdkemjipbkanoaa
open Go.RowKit
set_option linter.unusedVariables false
set_option linter.unusedSimpArgs false

theorem infoSz : ∀ W : World, (sizeOf (Try.prog.elem 34)).run Try.prog W = .ok 1 W := fun W => by
  have he : Try.prog.elem 34 = 23 := by kernel_rfl
  obtain ⟨i, hi, hz, hsize, hby⟩ := info_parts infoSl
  rw [he]
  simp [sizeOf, typeInfo, hi, hsize]
theorem sliceF_to (g n c : Nat) (k : Nat) (hk : k ≤ c) (W : World) :
    (Instr.slice 34 (.slice (some ⟨g, 0, none⟩) n c) none (some (.int .i64 (k : Int))) none).run Try.prog W = .ok (.slice (some ⟨g, 0, none⟩) k c) W := by
  have he : Try.prog.elem 34 = 23 := by kernel_rfl
  rw [run_slice_h W 34 (some ⟨g, 0, none⟩) n c (by rw [he]; exact Try.underlying34) .i64 k (by omega) (by omega), infoSz]
  simp only [Result.andThen, sliced]
  congr 2
  by_cases h : c = 0
  · rw [if_pos h]
  · rw [if_neg h]; simp [Addr.add]
theorem sliceF_from (g n c k : Nat) (hk : k ≤ n) (W : World) :
    (Instr.slice 34 (.slice (some ⟨g, 0, none⟩) n c) (some (.int .i64 (k : Int))) none none).run Try.prog W = .ok (.slice (some ⟨g, if c = k then 0 else k, none⟩) (n - k) (c - k)) W := by
  have he : Try.prog.elem 34 = 23 := by kernel_rfl
  rw [run_slice_l W 34 (some ⟨g, 0, none⟩) n c (by rw [he]; exact Try.underlying34) .i64 k (by omega) (by omega), infoSz]
  by_cases h : c = k
  · simp [Result.andThen, sliced, h]
  · simp [Result.andThen, sliced, h, Addr.add]
    omega
theorem ownsRow_trim {w : World} {base g n c : Nat} {e : TypeId} {xs : List Value} (h : w.ownsRow base e 1 (.slice (some ⟨g, 0, none⟩) n c) n xs) (k : Nat) (hk : k ≤ n) : w.ownsRow base e 1 (.slice (some ⟨g, 0, none⟩) k c) k (xs.take k) := by
  refine ⟨by rw [List.length_take, h.1]; omega, ?_⟩
  rcases h.2 with ⟨hv, _⟩ | ⟨g', cap, cur, hv, hb, hh, hn, hm, hs, ht⟩
  · cases hv
  · injection hv with e1 e2 e3
    injection e1 with e1
    injection e1 with e1
    subst e1 e3
    exact .inr ⟨g, c, cur, rfl, hb, hh, by omega, hm, hs, by rw [← ht, List.take_take]; congr 1; omega⟩
section
variable {w w' : World} {F : List Nat} {g n c : Nat} {ls : List (List UInt8)}
/-- append(s[:k], s[k+1:]...), in place. -/
theorem run_delF (h : RowF w F (.slice (some ⟨g, 0, none⟩) n c) ls) (hFs : ∀ k ∈ F, k < w.heap.size) (hn : ls.length = n) (hnc : n ≤ c) (k : Nat) (hk : k < n) (c2 : Nat) (ty : TypeId) :
    ∃ w', (Builtin.append_ #[34, 34] ty #[.slice (some ⟨g, 0, none⟩) k c, .slice (some ⟨g, if c = k + 1 then 0 else k + 1, none⟩) (n - (k + 1)) c2]).run Try.prog w = .ok (.slice (some ⟨g, 0, none⟩) (n - 1) c) w' ∧ RowF w' F (.slice (some ⟨g, 0, none⟩) (n - 1) c) (ls.eraseIdx k) ∧ w.grownBy w' (some g) := by
  have hty := h.ty
  obtain ⟨vs, h1, h2, h3⟩ := h
  rw [hn] at h1
  have hvl : vs.length = n := by have := h1.1; omega
  obtain ⟨i, hi, hz, hsize, hby⟩ := info_parts infoSl
  have h4 := ownsRow_trim h1 k (by omega)
  have hnew : ∀ j u, (vs.drop (k + 1))[j]? = some u → w.cell? ((⟨g, if c = k + 1 then 0 else k + 1, none⟩ : Addr).add j) = some u := fun j u hu => by
    have hj : j < n - (k + 1) := by
      have := (List.getElem?_eq_some_iff.1 hu).1
      rw [List.length_drop] at this
      omega
    rw [if_neg (by omega)]
    have hp : (⟨g, k + 1, none⟩ : Addr).add j = ⟨g, k + 1 + j, none⟩ := by unfold Addr.add; split <;> simp_all
    rw [hp, World.ownsRow.cellAt h1 (k + 1 + j) (by omega), ← hu, List.getElem?_drop]
  have h1c : ∀ u ∈ vs.drop (k + 1), u.oneCell' = true := fun u hu => by
    obtain ⟨j, hj, e⟩ := List.mem_iff_getElem.1 (List.mem_of_mem_drop hu)
    obtain ⟨u', hu', A, c', e', _⟩ := h3 j (by omega)
    rw [List.getElem?_eq_getElem hj, e] at hu'
    obtain rfl := Option.some.inj hu'
    rw [e']; rfl
  obtain ⟨w', hrun, h5, h6⟩ := run_append_fits (P := Try.prog) w 0 34 ty 23 i 1 Try.underlying34 hi hsize g k c (vs.take k) h4 ⟨g, if c = k + 1 then 0 else k + 1, none⟩ (n - (k + 1)) c2 (vs.drop (k + 1))
      (by rw [List.length_drop]; omega) hnew h1c (by omega)
  have e1 : k + (n - (k + 1)) = n - 1 := by omega
  rw [e1] at hrun h5
  have hkeep : Keeps8 F w w' := keeps_of h6 hFs fun g' e => by
    injection e with e
    subst e
    obtain ⟨cs, hh⟩ := hty g rfl
    exact ⟨cs, (0, 0), 23, by decide, hh⟩
  have hel : (ls.eraseIdx k).length = n - 1 := by rw [List.length_eraseIdx, if_pos (by omega)]; omega
  refine ⟨w', hrun, ⟨vs.take k ++ vs.drop (k + 1), by rw [hel]; exact h5, h2, fun j hj => ?_⟩, h6⟩
  rw [hel] at hj
  rw [← List.eraseIdx_eq_take_drop_succ, List.getElem?_eraseIdx, List.getD_eq_getElem?_getD, List.getElem?_eraseIdx]
  split
  · obtain ⟨u, hu, hb⟩ := h3 j (by omega)
    exact ⟨u, hu, by rw [← List.getD_eq_getElem?_getD]; exact hb.keep hkeep fun k hk => hk⟩
  · obtain ⟨u, hu, hb⟩ := h3 (j + 1) (by omega)
    exact ⟨u, hu, by rw [← List.getD_eq_getElem?_getD]; exact hb.keep hkeep fun k hk => hk⟩
/-- clear(s[m:m+1]). -/
theorem run_clrF (h : RowF w F (.slice (some ⟨g, 0, none⟩) n c) ls) (hFs : ∀ k ∈ F, k < w.heap.size) (hn : ls.length = n) (hnc : n < c) (c' : Nat) (ty : TypeId) :
    ∃ w', (Builtin.clear_ #[34] ty #[.slice (some ⟨g, n, none⟩) 1 c']).run Try.prog w = .ok (.tuple #[]) w' ∧ RowF w' F (.slice (some ⟨g, 0, none⟩) n c) ls ∧ w.grownBy w' (some g) := by
  have hty := h.ty
  obtain ⟨vs, h1, h2, h3⟩ := h
  rw [hn] at h1
  rcases h1.2 with ⟨hv, _⟩ | ⟨g', cap, cur, hv, hb, hg, hn', hm, hs, ht⟩
  · cases hv
  · injection hv with e1 e2 e3
    injection e1 with e1
    injection e1 with e1
    subst e1 e3
    have hst := storeCells_mark Try.prog g n 23 (0, 0) [Value.slice none 0 0] 0 cur w hg (fun j _ hj => by omega) (by simp; omega) (by intro v hv; simp at hv; subst hv; rfl)
    rw [Nat.add_zero] at hst
    have hgr : w.grownBy (w.setRow g (cur.toList.take n ++ [Value.slice none 0 0] ++ cur.toList.drop (n + [Value.slice none 0 0].length)).toArray) (some g) := grown_row (World.grownBy.refl w _) _
    have hkeep : Keeps8 F w _ := keeps_of hgr hFs fun g' e => by
      injection e with e
      subst e
      exact ⟨cur, (0, 0), 23, by decide, hg⟩
    refine ⟨_, ?_, ⟨vs, ?_, h2, fun j hj => ?_⟩, hgr⟩
    · obtain ⟨i, hi, hz, hsize, hby⟩ := info_parts infoSl
      simp [Builtin.clear_, run_underlying Try.underlying34, zeroValue, typeInfo, hi, hz, Builtin.zeroCells, Value.cells, hst]
    · rw [hn]
      refine ⟨h1.1, .inr ⟨g, c, _, rfl, hb, setRow_heap w g cur _ 23 (0, 0) hg, by omega, hm, ?_, ?_⟩⟩
      · simp; omega
      · rw [← ht]
        simp only [Nat.mul_one, List.append_assoc]
        rw [List.take_append_of_le_length (by simp; omega), List.take_take, Nat.min_self]
    · obtain ⟨u, hu, hb⟩ := h3 j hj
      exact ⟨u, hu, hb.keep hkeep fun k hk => hk⟩
theorem wpList_delF {ops : Array Oper} {rest : List Oper} {o : Oper} {a : Act} {Q : Exit → Act → World → Prop} (hgd : o.guard = none) (s x : Operand)
    (ho : o.op = .call { callee := .builtin .append, args := #[s, x], argTypes := #[34, 34] })
    (h : RowF w F (.slice (some ⟨g, 0, none⟩) n c) ls) (hFs : ∀ k ∈ F, k < w.heap.size) (hn : ls.length = n) (hnc : n ≤ c) (k : Nat) (hk : k < n) (c2 : Nat) (hs : a.eval s = .slice (some ⟨g, 0, none⟩) k c) (hx : a.eval x = .slice (some ⟨g, if c = k + 1 then 0 else k + 1, none⟩) (n - (k + 1)) c2)
    (hK : ∀ w', RowF w' F (.slice (some ⟨g, 0, none⟩) (n - 1) c) (ls.eraseIdx k) → w.grownBy w' (some g) → wpList Try.prog ops Q rest (a.put o.dst (.slice (some ⟨g, 0, none⟩) (n - 1) c)) w') : wpList Try.prog ops Q (o :: rest) a w := by
  refine wpList_plain hgd fun _ hk' => ?_
  obtain ⟨w', hrun, h1, h2⟩ := run_delF h hFs hn hnc k hk c2 o.type
  unfold Oper.wp execOp
  simp only [ho, resolve, invoke, builtin, Sem.run_bind, Sem.run_pure, Result.andThen_ok, List.map_toArray, List.map_cons, List.map_nil, hs, hx, hrun]
  exact hk' _ _ (hK w' h1 h2)
theorem wpList_clrF {ops : Array Oper} {rest : List Oper} {o : Oper} {a : Act} {Q : Exit → Act → World → Prop} (hgd : o.guard = none) (x : Operand)
    (ho : o.op = .call { callee := .builtin .clear, args := #[x], argTypes := #[34] })
    (h : RowF w F (.slice (some ⟨g, 0, none⟩) n c) ls) (hFs : ∀ k ∈ F, k < w.heap.size) (hn : ls.length = n) (hnc : n < c) (c' : Nat) (hx : a.eval x = .slice (some ⟨g, n, none⟩) 1 c')
    (hK : ∀ w', RowF w' F (.slice (some ⟨g, 0, none⟩) n c) ls → w.grownBy w' (some g) → wpList Try.prog ops Q rest (a.put o.dst (.tuple #[])) w') : wpList Try.prog ops Q (o :: rest) a w := by
  refine wpList_plain hgd fun _ hk' => ?_
  obtain ⟨w', hrun, h1, h2⟩ := run_clrF h hFs hn hnc c' o.type
  unfold Oper.wp execOp
  simp only [ho, resolve, invoke, builtin, Sem.run_bind, Sem.run_pure, Result.andThen_ok, List.map_toArray, List.map_cons, List.map_nil, hx, hrun]
  exact hk' _ _ (hK w' h1 h2)
end

theorem dec_succ (k : Nat) : decide ((k : Int) = (k : Int) + 1) = false := decide_eq_false (by omega)
set_option maxRecDepth 100000 in
set_option maxHeartbeats 4000000 in
theorem delete_any {w : World} {F : List Nat} {g m c : Nat} {ls : List (List UInt8)} (h : RowF w F (.slice (some ⟨g, 0, none⟩) (m + 1) c) ls) (hFs : ∀ k ∈ F, k < w.heap.size) (hn : ls.length = m + 1) (hnc : m + 1 ≤ c) (hn6 : m ≤ 1000000) (k : Nat) (hk : k < m + 1) :
    Calls Try.prog 21 #[.slice (some ⟨g, 0, none⟩) (m + 1) c, .int .i64 (k : Int), .int .i64 ((k : Int) + 1)] w fun e w' => e = .returned (.slice (some ⟨g, 0, none⟩) m c) ∧ RowF w' F (.slice (some ⟨g, 0, none⟩) m c) (ls.eraseIdx k) ∧ w.grownBy w' (some g) := by
  have hs1 := fun W => sliceF_to g (m + 1) c k (by omega) W
  have hs2 := fun W => sliceF_from g (m + 1) c (k + 1) (by omega) W
  rw [show (((k + 1 : Nat)) : Int) = (k : Int) + 1 by omega] at hs2
  obtain ⟨q, hq⟩ : ∃ q, m + 1 - (k + 1) = q := ⟨_, rfl⟩
  obtain ⟨r, hr⟩ : ∃ r, c - (k + 1) = r := ⟨_, rfl⟩
  obtain ⟨o, ho⟩ : ∃ o, (if c = k + 1 then 0 else k + 1) = o := ⟨_, rfl⟩
  rw [hq, hr, ho] at hs2
  have HQ := hidv_ hq
  have HO := hidv_ ho
  have HH := hidv_ h
  have HFS := hidv_ hFs
  have HN := hidv_ hn
  have hlt := (h.lt g rfl).1
  have HEL := hidv_ (show (ls.eraseIdx k).length = m by rw [List.length_eraseIdx, if_pos (by omega)]; omega)
  clear h hFs hn hq hr ho
  go_enter Try.func21, Try.ntmps21
  go_upto_region 5 with fail
  refine region_quiet_tail_lit 6 (by kernel_rfl) (by kernel_rfl) ?_
  simp only [List.take_succ_cons, List.take_zero]
  repeat (go_big_quiet_want; (first
    | (refine BigFrame.quiet_move _ rfl ?_; go_simp)
    | (refine quiet_run (.slice (some ⟨g, 0, none⟩) k c) ?_ ?_; (focus (intro W hW; have h := hs1 W; go_simp; done)); go_simp)
    | (refine quiet_run (.slice (some ⟨g, o, none⟩) q r) ?_ ?_; (focus (intro W hW; have h := hs2 W; go_simp; done)); go_simp)); go_big_quiet_on)
  refine wpQuiet_nil ?_
  intro w1 hw1
  obtain ⟨nq, rfl⟩ := hw1
  simp only [List.drop_succ_cons, List.drop_zero]
  have HG0 := hidv_ (grown_drewN (World.grownBy.refl w (some g)) nq)
  have HW : Hid (RowF (w.drewN nq) F (.slice (some ⟨g, 0, none⟩) (m + 1) c) ls) := hidv_ HH.out
  have HF2 : Hid (∀ k ∈ F, k < (w.drewN nq).heap.size) := hidv_ HFS.out
  generalize w.drewN nq = wd at *
  clear hs1 hs2
  go_wp2_with (first
    | (at_builtin; refine wpList_delF rfl (.tmp 22) (.tmp 25) rfl HW.out HF2.out HN.out hnc k hk r rfl (by rw [HQ.out, HO.out]; rfl) ?_; intro w2 h2 g2; rw [Nat.add_sub_cancel] at *; have H2 := hidv_ h2; have G2 := hidv_ g2; clear h2 g2)
    | (refine wpList_clrF rfl (.tmp 31) rfl H2.out (fun k hk => Nat.lt_of_lt_of_le (HF2.out k hk) G2.out.size) HEL.out (by omega) (c - m) rfl ?_; intro w3 h3 g3; have H3 := hidv_ h3; have G3 := hidv_ g3; clear h3 g3))
  go_ret
  exact ⟨rfl, H3.out, ⟨G3.out.os.trans (G2.out.os.trans HG0.out.os), G3.out.tape.trans (G2.out.tape.trans HG0.out.tape), G3.out.output.trans (G2.out.output.trans HG0.out.output), Nat.le_trans HG0.out.size (Nat.le_trans G2.out.size G3.out.size), fun i hi hne => (G3.out.block i (Nat.lt_of_lt_of_le hi (Nat.le_trans HG0.out.size G2.out.size)) hne).trans ((G2.out.block i (Nat.lt_of_lt_of_le hi HG0.out.size) hne).trans (HG0.out.block i hi hne))⟩⟩
end Go.Proofs.Ytdkemjipbkanoaa
