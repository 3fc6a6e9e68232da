/-
  Merged: Ij Ik Il.
-/
import Derived.Test.YtjflmfmncepeeaaIi
import Derived.Test.YtjflmfmncepeeaaFr
namespace Go.Proofs.Ytjflmfmncepeeaa
open Go.ChangeShapes Go.WideShapes Go.ChangeAt Go.RowKit
set_option linter.unusedVariables false
set_option linter.unusedSimpArgs false

def rowD (l : List DotV) : List Value := l.flatMap fun d => [.int .i64 d.c, .int .i64 d.n]
theorem rowD_len (l : List DotV) : (rowD l).length = l.length * 2 := by
  induction l with
  | nil => rfl
  | cons p l ih =>
    have e : rowD (p :: l) = [.int .i64 p.c, .int .i64 p.n] ++ rowD l := rfl
    rw [e, List.length_append, ih, List.length_cons, List.length_cons, List.length_cons, List.length_nil]
    omega
theorem rowD_at : ∀ (l : List DotV) (k : Nat) (h : k < l.length), (rowD l)[k * 2]? = some (.int .i64 (l.getD k ⟨0, 0⟩).c) ∧ (rowD l)[k * 2 + 1]? = some (.int .i64 (l.getD k ⟨0, 0⟩).n)
  | [], _, h => absurd h (by simp)
  | p :: l, 0, _ => ⟨rfl, rfl⟩
  | p :: l, k + 1, h => by
    have ih := rowD_at l k (by simpa using h)
    have e : rowD (p :: l) = [.int .i64 p.c, .int .i64 p.n] ++ rowD l := rfl
    have g : ∀ j, ([Value.int .i64 p.c, .int .i64 p.n] ++ rowD l)[(k + 1) * 2 + j]? = (rowD l)[k * 2 + j]? := fun j => by
      rw [List.getElem?_append_right (by simp only [List.length_cons, List.length_nil]; omega)]
      congr 1
      simp only [List.length_cons, List.length_nil]
      omega
    rw [e]
    have g0 := g 0
    rw [Nat.add_zero, Nat.add_zero] at g0
    rw [g0, g 1]
    simpa using ih
theorem rowD_one (l : List DotV) : ∀ u ∈ rowD l, u.oneCell' = true := fun u hu => by
  unfold rowD at hu
  rw [List.mem_flatMap] at hu
  obtain ⟨d, _, h⟩ := hu
  simp at h
  rcases h with rfl | rfl <;> rfl
theorem news_of_rdD {w : World} {B b off : Nat} {m : List DotV} (hr : RdD w B (some ⟨b, off, none⟩) m) : ∀ j u, (rowD m)[j]? = some u → w.cell? ((⟨b, off, none⟩ : Addr).add j) = some u := by
  intro j u hu
  have hl := rowD_len m
  have hj : j < m.length * 2 := by
    have := (List.getElem?_eq_some_iff.1 hu).1
    omega
  obtain ⟨b', off', e, _, hc⟩ := hr (by omega)
  injection e with e
  injection e with e1 e2 e3
  subst e1 e2
  have hadd : (⟨b, off, none⟩ : Addr).add j = ⟨b, off + j, none⟩ := by unfold Addr.add; split <;> simp_all
  rw [hadd]
  have hk : j / 2 < m.length := by omega
  obtain ⟨h1, h2⟩ := hc (j / 2) hk
  obtain ⟨r1, r2⟩ := rowD_at m (j / 2) hk
  rcases (by omega : j = j / 2 * 2 ∨ j = j / 2 * 2 + 1) with e | e
  · rw [e] at hu
    rw [r1] at hu
    rw [e, ← hu]
    exact h1
  · rw [e] at hu
    rw [r2] at hu
    rw [e, ← hu]
    exact h2
theorem RdD.take {w : World} {B : Nat} {A : Option Addr} {ms : List DotV} (h : RdD w B A ms) (k : Nat) : RdD w B A (ms.take k) := fun hn => by
  rw [List.length_take] at hn
  obtain ⟨b, off, e, hlt, hc⟩ := h (by omega)
  refine ⟨b, off, e, hlt, fun j hj => ?_⟩
  rw [List.length_take] at hj
  have e2 : (ms.take k).getD j ⟨0, 0⟩ = ms.getD j ⟨0, 0⟩ := by
    simp only [List.getD_eq_getElem?_getD, List.getElem?_take]
    rw [if_pos (by omega)]
  rw [e2]
  exact hc j (by omega)
theorem RdD.nil {w : World} {B : Nat} {A : Option Addr} : RdD w B A [] := fun h => absurd h (by simp)
theorem infoD : (Try.prog.info? 27).map (fun i => (i.size, i.bytes, i.zero)) = some (2, 16, some (.agg #[.int .i64 0, .int .i64 0])) := by kernel_rfl
/-- A slice's block is one of dots, if there are any. -/
def TyD (w : World) (A : Option Addr) (m : List DotV) : Prop := 0 < m.length → ∀ b off, A = some ⟨b, off, none⟩ → ∃ cs fr, w.heap[b]? = some (.cells cs 27 fr)
theorem TyD.grown {w w' : World} {A : Option Addr} {m : List DotV} {k : Nat} (h : TyD w A m) (hg : w.grownBy w' (some k)) (hne : 0 < m.length → ∀ b off, A = some ⟨b, off, none⟩ → b ≠ k) : TyD w' A m := fun h0 b off e => by
  obtain ⟨cs, fr, hh⟩ := h h0 b off e
  exact ⟨cs, fr, (hg.block b (Array.getElem?_eq_some_iff.1 hh).1 (fun e' => hne h0 b off e (by injection e'))).trans hh⟩
theorem TyD.below {w w' : World} {A : Option Addr} {m : List DotV} (h : TyD w A m) (hb : Below w.heap.size w w') : TyD w' A m := fun h0 b off e => by
  obtain ⟨cs, fr, hh⟩ := h h0 b off e
  exact ⟨cs, fr, (hb.block b (Array.getElem?_eq_some_iff.1 hh).1).trans hh⟩
/-- append onto a slice with no room: it is new, or nothing was appended. -/
theorem run_appD0 {w : World} {B : Nat} {A : Option Addr} {m : List DotV} (b0 : Addr) (hr : RdD w B A m) (n c : Nat) (hn : m.length = n) (hm : n ≤ 1000000) (ty : TypeId) :
    ∃ A' c' w', (Builtin.append_ #[23, 23] ty #[.slice (some b0) 0 0, .slice A n c]).run Try.prog w = .ok (.slice A' n c') w' ∧ RdD w' w'.heap.size A' m ∧ n ≤ c' ∧ c' ≤ 9223372036854775807 ∧ Below w.heap.size w w' ∧ (0 < n → A' = some ⟨w.heap.size, 0, none⟩) ∧ TyD w' A' m := by
  subst hn
  obtain ⟨i, hi, hii⟩ := Option.map_eq_some_iff.1 infoD
  simp only [Prod.mk.injEq] at hii
  obtain ⟨hsize, hby, hz⟩ := hii
  rcases Nat.eq_zero_or_pos m.length with h0 | h0
  · have hm0 : m = [] := List.eq_nil_of_length_eq_zero h0
    subst hm0
    refine ⟨some b0, 0, w, ?_, RdD.nil, Nat.le_refl _, Nat.zero_le _, Below.refl _ _, fun h => absurd h (by simp), fun h => absurd h (by simp)⟩
    cases A with
    | none => simp [Builtin.append_, run_underlying Try.underlying23, sizeOf, typeInfo, hi, Builtin.lenOf, Builtin.firstCells, storeCells]
    | some ad => simp [Builtin.append_, run_underlying Try.underlying23, sizeOf, typeInfo, hi, Builtin.lenOf, Builtin.firstCells, storeCells, loadCells, loadCellsFrom]
  · obtain ⟨b, off, rfl, _, _⟩ := id hr h0
    have hl : (rowD m).length = m.length * i.size := by rw [hsize, rowD_len]
    have hr2 := run_append_grow (P := Try.prog) w 23 ty 27 i (.agg #[.int .i64 0, .int .i64 0]) Try.underlying23 hi hz b0 0 0 [] (by simp) (by intro j v hj; simp at hj) ⟨b, off, none⟩ m.length c (rowD m) hl (news_of_rdD hr)
      (by omega) (by omega) (growslice_fits (by omega) (by rw [hby]; omega))
    simp only [Nat.zero_add] at hr2
    have hge := grownCap_ge w m.length 0 27
    have hcm : grownCap w m.length 0 27 ≤ maxLen := grownCap_le_maxLen w m.length 0 27 (by unfold maxLen; omega)
    have hcell : ∀ (j : Nat) (v : Value), (rowD m)[j]? = some v → (w.drew.alloc (.cells (([] : List Value).toArray ++ (rowD m).toArray ++ Builtin.zeroCells (Value.agg #[.int .i64 0, .int .i64 0]).cells (grownCap w m.length 0 27 - m.length)) 27)).cell? ⟨w.heap.size, j, none⟩ = some v := fun j v hv => by
      have hj := (List.getElem?_eq_some_iff.1 hv).1
      refine (World.cell?_alloc_mark w.drew (([] : List Value).toArray ++ (rowD m).toArray ++ Builtin.zeroCells (Value.agg #[.int .i64 0, .int .i64 0]).cells (grownCap w m.length 0 27 - m.length)) 27 (0, 0) j).trans ?_
      rw [Array.getElem?_append_left (by simp [hj])]
      simpa using hv
    refine ⟨_, _, _, hr2, fun _ => ⟨_, 0, rfl, by simp, fun j hj => ?_⟩, hge, by unfold maxLen at hcm; omega, ((Below.refl _ _).drew).alloc (by simp) _, fun _ => rfl, fun _ b off e => by
      injection e with e
      injection e with e1 e2
      subst e1
      exact ⟨_, _, heap_alloc_new w.drew _⟩⟩
    rw [Nat.zero_add]
    exact ⟨hcell _ _ (rowD_at m j hj).1, hcell _ _ (rowD_at m j hj).2⟩
theorem wpList_appD0 {ops : Array Oper} {rest : List Oper} {o : Oper} {a : Act} {Q : Exit → Act → World → Prop} {w : World} {B : Nat} {A : Option Addr} {m : List DotV} (hgd : o.guard = none) (s x : Operand)
    (ho : o.op = .call { callee := .builtin .append, args := #[s, x], argTypes := #[23, 23] })
    (b0 : Addr) (hs : a.eval s = .slice (some b0) 0 0) (n c : Nat) (hx : a.eval x = .slice A n c) (hr : RdD w B A m) (hn : m.length = n) (hm : n ≤ 1000000)
    (hK : ∀ A' c' w', RdD w' w'.heap.size A' m → n ≤ c' → c' ≤ 9223372036854775807 → Below w.heap.size w w' → (0 < n → A' = some ⟨w.heap.size, 0, none⟩) → TyD w' A' m → wpList Try.prog ops Q rest (a.put o.dst (.slice A' n c')) w') : wpList Try.prog ops Q (o :: rest) a w := by
  refine wpList_plain hgd fun _ hk => ?_
  obtain ⟨A', c', w', hrun, h1, h2, h3, h4, h5, h6⟩ := run_appD0 (w := w) b0 hr n c hn hm o.type
  unfold Oper.wp execOp
  simp only [ho, resolve, invoke, builtin, Sem.run_bind, Sem.run_pure, Result.andThen_ok, List.map_toArray, List.map_cons, List.map_nil, hs, hx, hrun]
  exact hk _ _ (hK A' c' w' h1 h2 h3 h4 h5 h6)
end Go.Proofs.Ytjflmfmncepeeaa

namespace Go.Proofs.Ytjflmfmncepeeaa
open Go.ChangeShapes Go.WideShapes Go.ChangeAt Go.RowKit
set_option linter.unusedVariables false
set_option linter.unusedSimpArgs false

theorem iRX_ : (Try.prog.info? 25).map (·.size) = some 17 := by kernel_rfl
theorem sliceD_to (A : Option Addr) (n c : Nat) (z : Int) (k : Nat) (hz : z = (k : Int)) (hk : k ≤ c) (W : World) :
    (Instr.slice 23 (.slice A n c) none (some (.int .i64 z)) none).run Try.prog W = .ok (.slice A k c) W := by
  subst hz
  have he : Try.prog.elem 23 = 27 := by kernel_rfl
  rw [run_slice_h W 23 A n c (by rw [he]; exact Try.underlying23) .i64 k (by omega) (by omega)]
  have hs : (sizeOf (Try.prog.elem 23)).run Try.prog W = .ok 2 W := by
    rw [he]
    kernel_rfl
  rw [hs]
  simp only [Result.andThen]
  cases A with
  | none => by_cases h : c = 0 <;> simp [sliced, h]
  | some a => by_cases h : c = 0 <;> simp [sliced, h, Addr.add]
theorem zRX_ (W : World) : (zeroValue 25).run Try.prog W = .ok (.agg (ctxRow (List.replicate 16 0) none 0 0)) W := by kernel_rfl

theorem grown_cell (w : World) (g k : Nat) (u : Value) : w.grownBy (w.setCell ⟨g, k, none⟩ u) (some g) :=
  ⟨rfl, rfl, rfl, by simp, fun j _ hne => Below.heap_setCell w ⟨g, k, none⟩ u j (fun e => hne (by rw [e]))⟩
theorem RdD.far {w : World} {B : Nat} {A : Option Addr} {ms : List DotV} (h : RdD w B A ms) (p : Addr) (u : Value) (hp : 0 < ms.length → ∀ b off, A = some ⟨b, off, none⟩ → b ≠ p.block) : RdD (w.setCell p u) B A ms := fun hn => by
  obtain ⟨b, off, e, hlt, hc⟩ := h hn
  have hne := hp hn b off e
  exact ⟨b, off, e, hlt, fun j hj => ⟨(World.cell?_of_block (Below.heap_setCell w p u b hne)).trans (hc j hj).1, (World.cell?_of_block (Below.heap_setCell w p u b hne)).trans (hc j hj).2⟩⟩
theorem RdD.grownR {w w' : World} {B g : Nat} {A : Option Addr} {ms : List DotV} (h : RdD w B A ms) (hB : B ≤ w.heap.size) (hg : w.grownBy w' (some g)) (hp : 0 < ms.length → ∀ b off, A = some ⟨b, off, none⟩ → b ≠ g) : RdD w' B A ms := fun hn => by
  obtain ⟨b, off, e, hlt, hc⟩ := h hn
  have hne := hp hn b off e
  have hk := fun j => World.cell?_of_block (a := ⟨b, j, none⟩) (hg.block b (by omega) (fun e => by injection e with e; exact hne e))
  exact ⟨b, off, e, hlt, fun j hj => ⟨(hk _).trans (hc j hj).1, (hk _).trans (hc j hj).2⟩⟩
theorem ctxRow_put (up : List Int) (A : Option Addr) (n c : Nat) (h : up.length = 16) (A' : Option Addr) (n' c' : Nat) : (ctxRow up A n c).setIfInBounds 16 (.slice A' n' c') = ctxRow up A' n' c' := by
  simp [ctxRow, h]
theorem ctxRow_one (up : List Int) (A : Option Addr) (n c : Nat) : (ctxRow up A n c).all (·.oneCell') = true := by
  simp [ctxRow, Value.oneCell']

set_option maxRecDepth 100000 in
set_option maxHeartbeats 8000000 in
theorem tame_t (w : World) (up : List Int) (hu : up.length = 16) (A : Option Addr) (n c : Nat) (ms : List DotV) (hn : ms.length = n) (hc : n ≤ c) (hc7 : c ≤ 9223372036854775807) (hr : RdD w w.heap.size A ms) :
    Calls Try.prog 9 #[.agg (ctxRow up A n c)] w fun e w' => ∃ A' c', e = .returned (.agg (ctxRow up A' (min n 40) c')) ∧ RdD w' w'.heap.size A' (ms.take 40) ∧ min n 40 ≤ c' ∧ c' ≤ 9223372036854775807 ∧ Below w.heap.size w w' ∧ (0 < min n 40 → ∀ b off, A' = some ⟨b, off, none⟩ → w.heap.size ≤ b) ∧ TyD w' A' (ms.take 40) := by
  obtain ⟨g, hg⟩ : ∃ g, w.heap.size = g := ⟨_, rfl⟩
  obtain ⟨w0, hw0⟩ : ∃ w0, w.alloc (.cells (ctxRow up A n c) 25) = w0 := ⟨_, rfl⟩
  have K0 := hidd_ (show Bk w0 g 25 (ctxRow up A n c) by rw [← hw0, ← hg]; exact Bk.new w _ _)
  have X0 := hidd_ (show Below g w w0 by rw [← hw0, ← hg]; exact (Below.refl _ _).alloc (Nat.le_refl _) _)
  have S0 : w0.heap.size = g + 1 := by rw [← hw0, ← hg]; simp
  obtain ⟨m, hm⟩ : ∃ m, m = min n 40 := ⟨_, rfl⟩
  have hz := zRX_
  have hm1 := fun W ts t => run_min2 n 40 m hm W ts t
  rw [show ((40 : Nat) : Int) = 40 from rfl] at hm1
  have hs1 := fun W => sliceD_to A n c (m : Int) m rfl (by omega) W
  go_enter Try.func9, Try.ntmps9
  go_upto_region 1 with fail
  generalize hw1 : w0.alloc _ = w1
  have b1 : Below w0.heap.size w0 w1 := by rw [← hw1]; exact (Below.refl _ _).alloc (Nat.le_refl _) _
  have S1 : w1.heap.size = g + 2 := by rw [← hw1]; simp [S0]
  have R1 : Bk w1 (g + 1) 25 (ctxRow (List.replicate 16 0) none 0 0) := by rw [← hw1, ← S0]; exact Bk.new w0 _ _
  have K1 := K0.out.below b1 K0.out.lt
  have X1 := X0.out.trans (b1.mono (by omega))
  obtain ⟨w2, hw2⟩ : ∃ x, w1.alloc (.cells #[] 27) = x := ⟨_, rfl⟩
  have b2 : Below w1.heap.size w1 w2 := by rw [← hw2]; exact (Below.refl _ _).alloc (Nat.le_refl _) _
  have K2 := K1.below b2 K1.lt
  have R2 := R1.below b2 R1.lt
  have X2 := X1.trans (b2.mono (by omega))
  have hcx := (K2.cell 16).trans (ctxRow_more up A n c hu)
  have hwl : wpList = wpList := rfl
  have HR2 := hidd_ ((hr.below (by rw [hg]; exact X2)).take 40)
  have LM := hidd_ (show (ms.take 40).length = m by rw [List.length_take, hn, hm, Nat.min_comm])
  have M6 : m ≤ 1000000 := by omega
  have HX2 := hidd_ X2
  have HK2 := hidd_ K2
  have HR := hidd_ R2
  have HU := hidd_ hu
  have HM := hidd_ hm
  clear b1 b2 K0 K1 R1 X0 X1 R2 X2 K2 hr hz hwl hu hn hm hw0 hw1 S0
  have IX := hidd_ (fun A n c => (show (Try.prog.info? 25).map (·.size) = some (ctxRow up A n c).size by rw [ctxRow_size up A n c HU.out]; exact iRX_))
  go_upto_region 2 with (first
    | (refine wpList_appD0 rfl (.tmp 3) (.tmp 10) rfl ⟨g + 2, 0, none⟩ rfl m c rfl HR2.out LM.out M6 ?_; intro A' c' w3 hr3 hm3 hc3 hb3 hA3 hT3; have HT3 := hidd_ hT3; clear hT3; have K3 := hidd_ (HK2.out.below hb3 HK2.out.lt); have R3 := hidd_ (HR.out.below hb3 HR.out.lt); have X3 := hidd_ (HX2.out.trans (hb3.mono (Nat.le_of_lt HK2.out.lt))); have hcx3 := (K3.out.cell 16).trans (ctxRow_more up A n c HU.out); have hfx3 := K3.out.frozen 16; have HR3 := hidd_ hr3; clear hr3 hb3)
    | fail)
  have e4 := ctxRow_put up A n c HU.out A' m c'
  generalize hw4 : w3.setCell _ _ = w4
  have S4 : w4.heap.size = w3.heap.size := by rw [← hw4]; simp
  have K4 := hidd_ (show Bk w4 g 25 (ctxRow up A' m c') by rw [← hw4, ← e4]; exact K3.out.set_ 16 _)
  have R4 := hidd_ (show Bk w4 (g + 1) 25 (ctxRow (List.replicate 16 0) none 0 0) by rw [← hw4]; exact R3.out.far (by simp) _)
  have X4 := hidd_ (show Below g w w4 by rw [← hw4]; exact X3.out.setCell (by simp) _)
  have R4D := hidd_ (show RdD w4 w4.heap.size A' (ms.take 40) by
    rw [S4, ← hw4]
    refine HR3.out.far _ _ fun h b off e => ?_
    rw [LM.out] at h
    rw [hA3 h] at e
    injection e with e
    injection e with e
    have := HK2.out.lt
    simp only
    omega)
  have HA4 := hidd_ (fun (h : 0 < m) (b off : Nat) (e : A' = some ⟨b, off, none⟩) => (show b ≠ g + 1 by
    rw [hA3 h] at e
    injection e with e
    injection e with e
    have := HR.out.lt
    omega))
  have TY4 := hidd_ (show TyD w4 A' (ms.take 40) from HT3.out.grown (by rw [← hw4]; exact grown_cell w3 g 16 _) fun h b off e => by
    rw [LM.out] at h
    rw [hA3 h] at e
    injection e with e
    injection e with e
    have := HK2.out.lt
    omega)
  have HA5 := hidd_ (fun (h : 0 < m) (b off : Nat) (e : A' = some ⟨b, off, none⟩) => (show g ≤ b by
    rw [hA3 h] at e
    injection e with e
    injection e with e
    have := HR.out.lt
    omega))
  clear hw4 e4 hcx3 hfx3 K3 R3 X3 HR3 HR2 HX2 HK2 HR hcx hw2 hA3
  go_wp2_with (first
    | (refine wpList_load_row rfl 25 (.tmp 1) rfl g rfl 25 (ctxRow up A' m c') (0, 0) _ K4.out Try.underlying25 rfl (IX.out A' m c') ?_)
    | (refine wpList_put_row rfl 25 _ _ rfl (g + 1) (ctxRow up A' m c') rfl rfl 25 (ctxRow (List.replicate 16 0) none 0 0) R4.out (IX.out A' m c') (by rw [ctxRow_size _ _ _ _ HU.out]; rfl) (ctxRow_one _ _ _ _) ?_; intro w5 k5 g5 s5))
  have k0 := K4.out.grown g5 (by simp)
  rw [← HM.out]
  have hle : w4.heap.size ≤ w5.heap.size := by omega
  refine bodyPost_ret (results_cell_row Try.results9 _ _ (g + 1) 25 _ (0, 0) _ rfl k5 Try.underlying25 rfl (IX.out A' m c')) rfl ⟨A', c', rfl, (R4D.out.grownR (Nat.le_refl _) g5 fun h b off e => HA4.out (by rw [LM.out] at h; exact h) b off e).more hle, hm3, hc3, by rw [hg]; exact X4.out.grown g5 (by have := K4.out.lt; omega) (fun k hk => by injection hk with hk; omega), fun h b off e => by rw [hg]; exact HA5.out h b off e, TY4.out.grown g5 fun h b off e => HA4.out (by rw [LM.out] at h; exact h) b off e⟩
theorem tame_any (w : World) (up : List Int) (hu : up.length = 16) (A : Option Addr) (n c : Nat) (ms : List DotV) (hn : ms.length = n) (hc : n ≤ c) (hc7 : c ≤ 9223372036854775807) (hr : RdD w w.heap.size A ms) :
    Calls Try.prog 9 #[.agg (ctxRow up A n c)] w fun e w' => ∃ A' c', e = .returned (.agg (ctxRow up A' (min n 40) c')) ∧ RdD w' w'.heap.size A' (ms.take 40) ∧ min n 40 ≤ c' ∧ c' ≤ 9223372036854775807 ∧ Below w.heap.size w w' ∧ (0 < min n 40 → ∀ b off, A' = some ⟨b, off, none⟩ → w.heap.size ≤ b) :=
  (tame_t w up hu A n c ms hn hc hc7 hr).mono fun e w' ⟨A', c', h1, h2, h3, h4, h5, h6, _⟩ => ⟨A', c', h1, h2, h3, h4, h5, h6⟩
end Go.Proofs.Ytjflmfmncepeeaa

namespace Go.Proofs.Ytjflmfmncepeeaa
open Go.ChangeShapes Go.WideShapes Go.ChangeAt Go.RowKit
set_option linter.unusedVariables false
set_option linter.unusedSimpArgs false

/-- What 'to' leaves in its result. -/
def ToFin (g n : Nat) (up : List Int) (ms : List DotV) (W : World) : Prop :=
  ∃ A' c', Bk W (g + 1) 29 (ctxRow up A' n c') ∧ RdD W W.heap.size A' ms ∧ n ≤ c' ∧ c' ≤ 9223372036854775807 ∧ (0 < ms.length → ∀ b off, A' = some ⟨b, off, none⟩ → b ≠ g + 1) ∧ TyD W A' ms
def ToT (g n : Nat) (up : List Int) (ms : List DotV) (W W' : World) : Prop :=
  W.grownBy W' (some (g + 1)) ∧ (W'.heap[g + 1]? = W.heap[g + 1]? ∨ ToFin g n up ms W')
theorem ToT.refl_ (g n : Nat) (up : List Int) (ms : List DotV) (W : World) : ToT g n up ms W W := ⟨World.grownBy.refl _ _, .inl rfl⟩
theorem ToT.of_below {g n : Nat} {up : List Int} {ms : List DotV} {W W' : World} (h : Below W.heap.size W W') (hl : g + 1 < W.heap.size) : ToT g n up ms W W' :=
  ⟨grown_of_below (World.grownBy.refl _ _) h, .inl (h.block _ hl)⟩
structure ToC (w : World) (g n c : Nat) (up : List Int) (A : Option Addr) (ms : List DotV) (W : World) : Prop where
  src : Bk W g 25 (ctxRow up A n c)
  dst : ∃ X, Bk W (g + 1) 29 X ∧ X.size = 17
  rd : RdD W g A ms
  below : Below g w W
theorem ToC.keep {w : World} {g n c : Nat} {up : List Int} {A : Option Addr} {ms : List DotV} {W W' : World} (h : ToC w g n c up A ms W) (hb : Below W.heap.size W W') : ToC w g n c up A ms W' := by
  obtain ⟨X, hX, hs⟩ := h.dst
  have hl := h.src.lt
  exact ⟨h.src.below hb hl, ⟨X, hX.below hb hX.lt, hs⟩, h.rd.below (hb.mono (by omega)), h.below.trans (hb.mono (by omega))⟩
def ToR (g n c : Nat) (up : List Int) (A : Option Addr) (ms : List DotV) : Nat → Value → World → Prop
  | 0, v, _ => v = .pointer (some ⟨g, 0, none⟩)
  | 1, v, _ => v = .agg (intRow up)
  | 2, v, _ => ∃ q, v = .slice (some ⟨q, 0, none⟩) 0 0
  | 3, v, _ => v = .pointer (some ⟨g, 16, none⟩)
  | 4, v, _ => v = .slice A n c
  | 5, v, W => ∃ A' c', v = .slice A' n c' ∧ RdD W W.heap.size A' ms ∧ n ≤ c' ∧ c' ≤ 9223372036854775807 ∧ (0 < ms.length → ∀ b off, A' = some ⟨b, off, none⟩ → b ≠ g + 1) ∧ TyD W A' ms
  | 6, v, W => ∃ A' c', v = .agg (ctxRow up A' n c') ∧ RdD W W.heap.size A' ms ∧ n ≤ c' ∧ c' ≤ 9223372036854775807 ∧ (0 < ms.length → ∀ b off, A' = some ⟨b, off, none⟩ → b ≠ g + 1) ∧ TyD W A' ms
  | 7, _, W => ToFin g n up ms W
  | _, _, _ => True
theorem ToR.keep {g n c : Nat} {up : List Int} {A : Option Addr} {ms : List DotV} (j : Nat) (v : Value) (W W' : World) (hT : ToT g n up ms W W') (h : ToR g n c up A ms j v W) : ToR g n c up A ms j v W' := by
  obtain ⟨hg, hf⟩ := hT
  rcases j with _ | _ | _ | _ | _ | _ | _ | _ | j
  · exact h
  · exact h
  · exact h
  · exact h
  · exact h
  · obtain ⟨A', c', e, hr, h1, h2, h3⟩ := h
    exact ⟨A', c', e, (hr.grownR (Nat.le_refl _) hg h3.1).more hg.size, h1, h2, h3.1, h3.2.grown hg h3.1⟩
  · obtain ⟨A', c', e, hr, h1, h2, h3⟩ := h
    exact ⟨A', c', e, (hr.grownR (Nat.le_refl _) hg h3.1).more hg.size, h1, h2, h3.1, h3.2.grown hg h3.1⟩
  · rcases hf with hf | hf
    · obtain ⟨A', c', e, hr, h1, h2, h3⟩ := h
      exact ⟨A', c', hf.trans e, (hr.grownR (Nat.le_refl _) hg h3.1).more hg.size, h1, h2, h3.1, h3.2.grown hg h3.1⟩
    · exact hf
  · exact h
theorem built_ctx16 (a0 a1 a2 a3 a4 a5 a6 a7 a8 a9 a10 a11 a12 a13 a14 a15 : Int) (A : Option Addr) (n c : Nat) : Try.prog.built 29 [(0, .agg (intRow [a0, a1, a2, a3, a4, a5, a6, a7, a8, a9, a10, a11, a12, a13, a14, a15])), (1, .slice A n c)] = some (ctxRow [a0, a1, a2, a3, a4, a5, a6, a7, a8, a9, a10, a11, a12, a13, a14, a15] A n c) := by kernel_rfl
set_option maxRecDepth 100000 in
theorem built_ctx (up : List Int) (hu : up.length = 16) (A : Option Addr) (n c : Nat) : Try.prog.built 29 [(0, .agg (intRow up)), (1, .slice A n c)] = some (ctxRow up A n c) := by
  match up, hu with
  | [a0, a1, a2, a3, a4, a5, a6, a7, a8, a9, a10, a11, a12, a13, a14, a15], _ => exact built_ctx16 a0 a1 a2 a3 a4 a5 a6 a7 a8 a9 a10 a11 a12 a13 a14 a15 A n c
theorem zX_ (W : World) : (zeroValue 29).run Try.prog W = .ok (.agg (ctxRow (List.replicate 16 0) none 0 0)) W := by kernel_rfl

set_option maxRecDepth 100000 in
set_option maxHeartbeats 8000000 in
theorem to_t (w : World) (up : List Int) (hu : up.length = 16) (A : Option Addr) (n c : Nat) (ms : List DotV) (hn : ms.length = n) (hn6 : n ≤ 1000000) (hc : n ≤ c) (hc7 : c ≤ 9223372036854775807) (hr : RdD w w.heap.size A ms) :
    Calls Try.prog 10 #[.agg (ctxRow up A n c)] w fun e w' => ∃ A' c', e = .returned (.agg (ctxRow up A' n c')) ∧ RdD w' w'.heap.size A' ms ∧ n ≤ c' ∧ c' ≤ 9223372036854775807 ∧ Below w.heap.size w w' ∧ TyD w' A' ms := by
  obtain ⟨g, hg⟩ : ∃ g, w.heap.size = g := ⟨_, rfl⟩
  obtain ⟨w0, hw0⟩ : ∃ w0, w.alloc (.cells (ctxRow up A n c) 25) = w0 := ⟨_, rfl⟩
  have K0 := show Bk w0 g 25 (ctxRow up A n c) by rw [← hw0, ← hg]; exact Bk.new w _ _
  have X0 := show Below g w w0 by rw [← hw0, ← hg]; exact (Below.refl _ _).alloc (Nat.le_refl _) _
  have S0 : w0.heap.size = g + 1 := by rw [← hw0, ← hg]; simp
  have hz := zX_
  go_enter Try.func10, Try.ntmps10
  go_upto_region 1 with fail
  generalize hw1 : w0.alloc _ = w1
  have b1 : Below w0.heap.size w0 w1 := by rw [← hw1]; exact (Below.refl _ _).alloc (Nat.le_refl _) _
  have R1 : Bk w1 (g + 1) 29 (ctxRow (List.replicate 16 0) none 0 0) := by rw [← hw1, ← S0]; exact Bk.new w0 _ _
  have K1 := K0.below b1 K0.lt
  have X1 := X0.trans (b1.mono (by omega))
  have IX : ∀ A n c, (Try.prog.info? 29).map (·.size) = some (ctxRow up A n c).size := fun A n c => by rw [ctxRow_size up A n c hu]; exact iX_
  have IU : (Try.prog.info? 22).map (·.size) = some (intRow up).size := by rw [intRow_size, hu]; exact iU_
  have C1 : ToC w g n c up A ms w1 := ⟨K1, ⟨_, R1, by rw [ctxRow_size _ _ _ _ (by simp)]⟩, (hr.below (by rw [hg]; exact X1)).more (by omega), X1⟩
  clear K0 X0 S0 hz hw0 b1 hw1 R1 K1 X1 hr
  refine region_byF [3, 4, 5, 6, 7, 8, 9] (ToC w g n c up A ms) (ToT g n up ms) (ToR g n c up A ms) (by kernel_rfl) (by kernel_rfl) (by kernel_rfl) rfl (fun j v w w' hT h => h.keep j v w w' hT) (fun j v w hlt hj h => by
    rcases j with _ | _ | _ | _ | _ | _ | _ | _ | j
    all_goals first
      | (exfalso; simp [dstOf] at hj; done)
      | exact h
      | (exfalso; simp at hlt; omega)) (C1.keep ((Below.refl _ _).drew)) ?_ ?_
  · refine ⟨fun a w hC hd hf hv K hK => ?_, fun a w hC hd hf hv K hK => ?_, fun a w hC hd hf hv K hK => ?_, fun a w hC hd hf hv K hK => ?_, fun a w hC hd hf hv K hK => ?_, fun a w hC hd hf hv K hK => ?_, fun a w hC hd hf hv K hK => ?_, fun a w hC hd hf hv K hK => ?_, trivial⟩
    · have e1 := slot_of (a := a) (s := 1) (v := .pointer (some ⟨g, 0, none⟩)) (hf 1 (by kernel_rfl))
      refine step_run (wanted_none rfl) (v := .pointer (some ⟨g, 0, none⟩)) (w' := w) ?_ (hK _ _ hC (ToT.refl_ _ _ _ _ _) rfl)
      go_simp
    · have e1 := eval_of (a := a) (s := 3) (v := .pointer (some ⟨g, 0, none⟩)) (hv 0 (by kernel_rfl))
      have hrun : (loadVar 22 ⟨g, 0, none⟩).run Try.prog w = .ok (.agg (intRow up)) w := run_load_sub 22 g 0 (intRow up) (fun j hj => by
        rw [intRow_size, hu] at hj
        rw [Nat.zero_add, hC.src.cell j, ctxRow_up up A n c j hu hj, intRow_at up j (by omega)]) _ Try.underlying22 rfl IU
      refine step_run (wanted_none rfl) (v := .agg (intRow up)) (w' := w) ?_ (hK _ _ hC (ToT.refl_ _ _ _ _ _) rfl)
      unfold execOp
      simp only [e1, Instr.loadAt, Instr.sureAddr, Sem.run_bind, Sem.run_pure, Result.andThen_ok, Sem.run_map, hrun]
    · have hbn := (Below.refl w.heap.size w).alloc (Nat.le_refl _) (.cells #[] 27)
      obtain ⟨X, hX, _⟩ := hC.dst
      have hxl := hX.lt
      refine step_run (wanted_none rfl) (v := .slice (some ⟨w.heap.size, 0, none⟩) 0 0) (w' := w.alloc (.cells #[] 27)) ?_ (hK _ _ (ToC.keep hC hbn) (ToT.of_below hbn hxl) ⟨_, rfl⟩)
      go_simp
    · have e1 := slot_of (a := a) (s := 1) (v := .pointer (some ⟨g, 0, none⟩)) (hf 1 (by kernel_rfl))
      refine step_run (wanted_none rfl) (v := .pointer (some ⟨g, 16, none⟩)) (w' := w) ?_ (hK _ _ hC (ToT.refl_ _ _ _ _ _) rfl)
      go_simp
    · have e1 := slot_of (a := a) (s := 6) (v := .pointer (some ⟨g, 16, none⟩)) (hv 3 (by kernel_rfl))
      have hcx := (hC.src.cell 16).trans (ctxRow_more up A n c hu)
      refine step_run (wanted_none rfl) (v := .slice A n c) (w' := w) ?_ (hK _ _ hC (ToT.refl_ _ _ _ _ _) rfl)
      go_simp
    · obtain ⟨q, e1'⟩ : ∃ q, a.tmps.getD 5 undef = .slice (some ⟨q, 0, none⟩) 0 0 := hv 2 (by kernel_rfl)
      have e1 := eval_of e1'
      have e2 := eval_of (a := a) (s := 7) (v := .slice A n c) (hv 4 (by kernel_rfl))
      obtain ⟨X, hX, _⟩ := hC.dst
      have hxl := hX.lt
      rw [if_pos (wanted_none rfl)]
      obtain ⟨A', c', w', hrun, h1, h2, h3, h4, h5, h6⟩ := run_appD0 (w := w) ⟨q, 0, none⟩ hC.rd n c hn hn6 23
      unfold Oper.wp execOp
      simp only [resolve, invoke, builtin, Sem.run_bind, Sem.run_pure, Result.andThen_ok, List.map_toArray, List.map_cons, List.map_nil, e1, e2, hrun]
      refine hK _ _ (ToC.keep hC h4) (ToT.of_below h4 hxl) ⟨A', c', rfl, h1, h2, h3, fun h b off e => ?_, h6⟩
      rw [h5 (by omega)] at e
      injection e with e
      injection e with e
      omega
    · obtain ⟨A', c', e2', h1, h2, h3, h4⟩ : ∃ A' c', a.tmps.getD 8 undef = .slice A' n c' ∧ RdD w w.heap.size A' ms ∧ n ≤ c' ∧ c' ≤ 9223372036854775807 ∧ (0 < ms.length → ∀ b off, A' = some ⟨b, off, none⟩ → b ≠ g + 1) ∧ TyD w A' ms := hv 5 (by kernel_rfl)
      have e1 := eval_of (a := a) (s := 4) (v := .agg (intRow up)) (hv 1 (by kernel_rfl))
      have e2 := eval_of e2'
      have hb := built_ctx up hu A' n c'
      rw [if_pos (wanted_none rfl)]
      refine wp_build 29 #[(0, .tmp 4), (1, .tmp 8)] rfl ?_ ?_
      · simp [e1, e2, hb]
      · simp only [List.map_toArray, List.map_cons, List.map_nil, e1, e2, hb, Option.getD_some]
        exact hK _ _ hC (ToT.refl_ _ _ _ _ _) ⟨A', c', rfl, h1, h2, h3, h4⟩
    · obtain ⟨A', c', e2', h1, h2, h3, h4⟩ : ∃ A' c', a.tmps.getD 9 undef = .agg (ctxRow up A' n c') ∧ RdD w w.heap.size A' ms ∧ n ≤ c' ∧ c' ≤ 9223372036854775807 ∧ (0 < ms.length → ∀ b off, A' = some ⟨b, off, none⟩ → b ≠ g + 1) ∧ TyD w A' ms := hv 6 (by kernel_rfl)
      have e1 := eval_of (a := a) (s := 2) (v := .pointer (some ⟨g + 1, 0, none⟩)) (hf 2 (by kernel_rfl))
      have e2 := eval_of e2'
      obtain ⟨X, hX, hXs⟩ := hC.dst
      refine step_put_row rfl 29 _ _ rfl (g + 1) (ctxRow up A' n c') e1 e2 29 X hX (IX A' n c') (by rw [hXs, ctxRow_size _ _ _ _ hu]) (ctxRow_one _ _ _ _) ?_
      intro w' k9 g9 s9
      have hF : ToFin g n up ms w' := ⟨A', c', k9, (h1.grownR (Nat.le_refl _) g9 h4.1).more (by omega), h2, h3, h4.1, h4.2.grown g9 h4.1⟩
      refine hK _ _ ⟨hC.src.grown g9 (by simp), ⟨_, k9, by rw [ctxRow_size _ _ _ _ hu]⟩, hC.rd.grownR (Nat.le_of_lt hC.src.lt) g9 (fun h b off e => ?_), hC.below.grown g9 (by have := hC.src.lt; omega) (fun k hk => by injection hk with hk; omega)⟩ ⟨g9, .inr hF⟩ hF
      obtain ⟨b', off', e', hlt, _⟩ := hC.rd h
      rw [e'] at e
      injection e with e
      injection e with e
      omega
  · intro f W hC hv
    obtain ⟨A', c', k9, h1, h2, h3, h4⟩ : ToFin g n up ms W := hv 7 (by decide)
    simp only [framed, List.foldl_cons, List.foldl_nil, List.setIfInBounds_toArray, List.set_cons_succ, List.set_cons_zero]
    have XB := hidd_ hC.below
    clear hv hC
    rename_i K hK
    refine hK _ _ ?_
    go_wp2
    exact bodyPost_ret (results_cell_row Try.results10 _ _ (g + 1) 29 _ (0, 0) _ rfl k9 Try.underlying29 rfl (IX A' n c')) rfl ⟨A', c', rfl, h1, h2, h3, by rw [hg]; exact XB.out, h4.2⟩
theorem to_any (w : World) (up : List Int) (hu : up.length = 16) (A : Option Addr) (n c : Nat) (ms : List DotV) (hn : ms.length = n) (hn6 : n ≤ 1000000) (hc : n ≤ c) (hc7 : c ≤ 9223372036854775807) (hr : RdD w w.heap.size A ms) :
    Calls Try.prog 10 #[.agg (ctxRow up A n c)] w fun e w' => ∃ A' c', e = .returned (.agg (ctxRow up A' n c')) ∧ RdD w' w'.heap.size A' ms ∧ n ≤ c' ∧ c' ≤ 9223372036854775807 ∧ Below w.heap.size w w' :=
  (to_t w up hu A n c ms hn hn6 hc hc7 hr).mono fun e w' ⟨A', c', h1, h2, h3, h4, h5, _⟩ => ⟨A', c', h1, h2, h3, h4, h5⟩
end Go.Proofs.Ytjflmfmncepeeaa
