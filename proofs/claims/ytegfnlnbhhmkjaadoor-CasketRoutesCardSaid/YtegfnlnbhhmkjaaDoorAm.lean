/-
  A slice of bytes of the call's own whose block may bear a mark that none of its cells bears (what '[]byte(s)' lays); append onto it.
-/
import Derived.Test.YtegfnlnbhhmkjaaDoorAp
import Derived.Test.YtegfnlnbhhmkjaaDoorBr
import Derived.Lib.FrozenHead2
import Derived.Lib.AppendStr
import Derived.Laws.IdiomStrings
namespace Go.Proofs.YtegfnlnbhhmkjaaDoor
set_option maxRecDepth 100000
open Go.RowKit Go.Lib
set_option linter.unusedVariables false

theorem storeCells_mark (P : Program) (g o : Nat) (t : TypeId) (fz : Nat × Nat) : ∀ (vs : List Value) (i : Nat) (cur : Array Value) (w : World), w.heap[g]? = some (.cells cur t fz) → (∀ j, j < cur.size → ¬ (fz.1 ≤ j ∧ j < fz.2)) → o + i + vs.length ≤ cur.size → (∀ v ∈ vs, v.oneCell' = true) →
    (storeCells ⟨g, o, none⟩ vs i).run P w = .ok () (w.setRow g (cur.toList.take (o + i) ++ vs ++ cur.toList.drop (o + i + vs.length)).toArray)
  | [], i, cur, w, hg, _, _, _ => by
    simp only [storeCells, List.append_nil, List.length_nil, Nat.add_zero, List.take_append_drop, Array.toArray_toList]
    rw [setRow_self w g cur t fz hg]
    rfl
  | v :: rest, i, cur, w, hg, hfz, hl, h1 => by
    have hi : o + i < cur.size := by simp at hl; omega
    have hadd : (⟨g, o, none⟩ : Addr).add i = ⟨g, o + i, none⟩ := by unfold Addr.add; split <;> simp_all
    have hcell : w.cell? ⟨g, o + i, none⟩ = some cur[o + i] := by simp [World.cell?, hg, hi]
    have hfro : w.frozen? ⟨g, o + i, none⟩ = false := by
      have h := hfz (o + i) hi
      obtain ⟨lo, hi'⟩ := fz
      simp only [World.frozen?, hg, Bool.and_eq_false_iff, decide_eq_false_iff_not]
      simp only at h
      omega
    have hst : (store ((⟨g, o, none⟩ : Addr).add i) v).run P w = .ok () (w.setRow g (cur.setIfInBounds (o + i) v)) := by
      rw [hadd, run_store P w _ v _ (h1 v (by simp)), hcell]
      simp [hfro, setCell_eq_setRow w g (o + i) cur t fz v hg]
    have ih := storeCells_mark P g o t fz rest (i + 1) (cur.setIfInBounds (o + i) v) (w.setRow g (cur.setIfInBounds (o + i) v)) (setRow_heap w g cur _ t _ hg) (by simpa using hfz) (by simp at hl ⊢; omega) (fun x hx => h1 x (by simp [hx]))
    simp only [storeCells, Sem.run_bind, hst, Result.andThen_ok, ih, setRow_setRow]
    congr 3
    have e := list_seg_step cur.toList (o + i) v rest (by simp at hl ⊢; omega)
    simpa [Array.toList_setIfInBounds, Nat.add_assoc] using e

/-- A row of one byte, just laid. -/
theorem rd_byte (W : World) (z : UInt8) (V : Int) (h : V = ((z.toNat : Nat) : Int)) : Rd (W.alloc (.cells #[.int .u8 V] 5)) (W.heap.size + 1) (some ⟨W.heap.size, 0, none⟩) [z] := by
  subst h
  exact (Blk8.new W [z]).rd (Nat.lt_succ_self _)

/-- v is a slice of the call's own, and reads as l; its block may bear a mark behind its cells. -/
def OwnT (w : World) (base : Nat) (v : Value) (l : List UInt8) : Prop :=
  (v = .slice none 0 0 ∧ l = []) ∨ ∃ g cap cur fz, v = .slice (some ⟨g, 0, none⟩) l.length cap ∧ base ≤ g ∧ w.heap[g]? = some (.cells cur 5 fz) ∧ (∀ j, j < cur.size → ¬ (fz.1 ≤ j ∧ j < fz.2)) ∧ l.length ≤ cap ∧ cap ≤ maxLen ∧ cur.size = cap ∧ cur.toList.take l.length = (rowOf l).toList

section
variable {w w' : World} {base : Nat} {v : Value} {l : List UInt8}
theorem OwnT.lt (h : OwnT w base v l) : ∀ g, v.ownBlock = some g → base ≤ g ∧ g < w.heap.size := by
  intro k hk
  rcases h with ⟨rfl, _⟩ | ⟨g, cap, cur, fz, rfl, hb, hg, _⟩
  · simp [Value.ownBlock] at hk
  · simp [Value.ownBlock] at hk
    subst hk
    exact ⟨hb, (Array.getElem?_eq_some_iff.1 hg).1⟩
theorem OwnT.kept {row : Option Nat} (h : OwnT w base v l) (hg : w.grownBy w' row) (hne : v.ownBlock = none ∨ v.ownBlock ≠ row) : OwnT w' base v l := by
  rcases h with hn | ⟨g, cap, cur, fz, rfl, hb, hgg, rest⟩
  · exact .inl hn
  · refine .inr ⟨g, cap, cur, fz, rfl, hb, ?_, rest⟩
    rw [hg.block g (Array.getElem?_eq_some_iff.1 hgg).1 (by simpa [Value.ownBlock] using hne)]
    exact hgg
theorem OwnT.alloc (h : OwnT w base v l) (o : Obj) : OwnT (w.alloc o) base v l := h.kept (World.grownBy_alloc w o none) (by cases hv : v.ownBlock <;> simp)
theorem OwnT.drew (h : OwnT w base v l) : OwnT w.drew base v l := h
theorem OwnT.drewN (h : OwnT w base v l) (n : Nat) : OwnT (w.drewN n) base v l := h
theorem OwnT.below {B : Nat} (h : OwnT w base v l) (hb : Below B w w') (hB : w.heap.size ≤ B) : OwnT w' base v l := by
  refine OwnT.kept (row := none) h ⟨hb.os, hb.tape, hb.output, hb.size, fun k hk _ => hb.block k (by omega)⟩ ?_
  cases h1 : v.ownBlock with
  | none => exact .inl rfl
  | some g => exact .inr (by simp)
theorem OwnT.rd {A : Option Addr} {n c : Nat} (h : OwnT w base (.slice A n c) l) : Rd w w.heap.size A l ∧ n = l.length ∧ n ≤ c ∧ c ≤ maxLen := by
  have hlt := h.lt
  rcases h with ⟨hv, hl⟩ | ⟨g, cap, cur, fz, hv, hb, hg, hfz, hn, hm, hs, ht⟩
  · injection hv with e1 e2 e3
    subst e1 hl e2 e3
    exact ⟨Rd.nil, rfl, Nat.le_refl _, Nat.zero_le _⟩
  · injection hv with e1 e2 e3
    subst e1 e3
    refine ⟨fun _ => ⟨g, 0, rfl, (hlt g rfl).2, fun j hj => ?_⟩, e2, by omega, hm⟩
    rw [Nat.zero_add, cell_of_row w g j cur 5 fz hg]
    have h1 : cur.toList[j]? = (rowOf l).toList[j]? := by rw [← ht, List.getElem?_take, if_pos hj]
    have h2 := rowOf_at l j hj
    simpa using h1.trans (by simpa using h2)
/-- What '[]byte(s)' lays. -/
theorem OwnT.of_string (w : World) (base : Nat) (l : List UInt8) (hb : base ≤ w.heap.size) (hm : l.length ≤ maxLen) :
    (convert 9 39 (.string (strOf l))).run Tryd.prog w = .ok (.slice (some ⟨w.heap.size, 0, none⟩) l.length (grownCap w l.length 0 5)) (w.drew.alloc (.cells (bytesRow (strOf l) (grownCap w l.length 0 5)) 5 ((bytesRow (strOf l) (grownCap w l.length 0 5)).size, (bytesRow (strOf l) (grownCap w l.length 0 5)).size + 1))) ∧
    OwnT (w.drew.alloc (.cells (bytesRow (strOf l) (grownCap w l.length 0 5)) 5 ((bytesRow (strOf l) (grownCap w l.length 0 5)).size, (bytesRow (strOf l) (grownCap w l.length 0 5)).size + 1))) base (.slice (some ⟨w.heap.size, 0, none⟩) l.length (grownCap w l.length 0 5)) l := by
  have h := run_bytes_of_string (P := Tryd.prog) w 9 39 5 (strOf l) Tryd.underlying9 Tryd.underlying39 Tryd.underlying5
  rw [strOf_size] at h
  have hge := grownCap_ge w l.length 0 5
  have hle := grownCap_le_maxLen w l.length 0 5 hm
  refine ⟨h, .inr ⟨w.heap.size, _, _, _, rfl, hb, heap_alloc_new w.drew _, fun j hj hc => by omega, hge, hle, ?_, ?_⟩⟩
  · simp [bytesRow, strOf, ByteArray.size]
    omega
  · simp [bytesRow, strOf, rowOf, ByteArray.size]

theorem OwnT.of_own (h : Own8 w base v l) : OwnT w base v l := by
  rcases h.2 with ⟨hv, h0⟩ | ⟨g, cap, cur, hv, hb, hg, hn, hm, hs, ht⟩
  · exact .inl ⟨hv, List.eq_nil_of_length_eq_zero h0⟩
  · exact .inr ⟨g, cap, cur, (0, 0), hv, hb, hg, fun j _ hc => by omega, hn, hm, by simpa using hs, by simpa using ht⟩
/-- append onto it. -/
theorem run_appT (h : OwnT w base v l) {B : Nat} {A : Option Addr} {m : List UInt8} (hr : Rd w B A m) (n c : Nat) (hn : m.length = n) (ty : TypeId)
    (hsz : l.length + n ≤ 140737488355328) (hbase : base ≤ w.heap.size) (h0 : 0 < n) :
    ∃ v' w', (Builtin.append_ #[39, 39] ty #[v, .slice A n c]).run Tryd.prog w = .ok v' w' ∧ OwnT w' base v' (l ++ m) ∧ w.grownBy w' v.ownBlock := by
  subst hn
  obtain ⟨i, hi, hz, hsize, hby⟩ := info_parts info8
  obtain ⟨b, off, rfl, _, _⟩ := id hr h0
  have hnews := news_of_rd hr
  have hnl : (rowOf m).toList.length = m.length * i.size := by simp [rowOf, hsize]
  have hcat : (rowOf l).toList ++ (rowOf m).toList = (rowOf (l ++ m)).toList := by simp [rowOf]
  have hll : (rowOf l).toList.length = l.length := by simp [rowOf]
  have hml : (rowOf m).toList.length = m.length := by simp [rowOf]
  rcases h with ⟨rfl, rfl⟩ | ⟨g, cap, cur, fz, rfl, hbg, hg, hfz, hnc, hcm, hcs, htake⟩
  · obtain ⟨v', w', h1, h2, h3, _⟩ := run_app (Own8.nil_ w base) hr m.length c rfl ty (by simpa using hsz) hbase
    exact ⟨v', w', h1, OwnT.of_own h2, h3⟩
  · have hlt2 : (rowOf (l ++ m)).toList.length = (l ++ m).length := by simp [rowOf]
    by_cases hroom : l.length + m.length ≤ cap
    · have hf := run_firstCells_some (P := Tryd.prog) w i.size m.length ⟨b, off, none⟩ m.length c (rowOf m).toList hnl hnews
      have hst := storeCells_mark Tryd.prog g l.length 5 fz (rowOf m).toList 0 cur w hg hfz (by rw [hml]; omega) (one_of_row m)
      simp only [Nat.add_zero] at hst
      rw [hsize] at hf
      refine ⟨.slice (some ⟨g, 0, none⟩) (l.length + m.length) cap, w.setRow g (cur.toList.take l.length ++ (rowOf m).toList ++ cur.toList.drop (l.length + (rowOf m).toList.length)).toArray, ?_, .inr ⟨g, cap, _, fz, by rw [List.length_append], hbg, setRow_heap w g cur _ 5 fz hg, ?_, by rw [List.length_append]; exact hroom, hcm, ?_, ?_⟩, ⟨rfl, rfl, rfl, by simp, fun k _ hk => setRow_other w g k _ (fun e => hk (by simp [Value.ownBlock, e]))⟩⟩
      · simp [Builtin.append_, run_underlying Tryd.underlying39, sizeOf, typeInfo, hi, hsize, Builtin.lenOf, hroom, hf, Addr.add_lit, hst]
      · intro j hj
        refine hfz j ?_
        simp only [List.size_toArray, List.length_append, List.length_take, List.length_drop, Array.length_toList, hml] at hj
        omega
      · simp only [List.size_toArray, List.length_append, List.length_take, List.length_drop, Array.length_toList, hml]
        omega
      · rw [htake, hcat, ← hlt2]
        exact List.take_left
    · have holds : ∀ j u, (rowOf l).toList[j]? = some u → w.cell? ((⟨g, 0, none⟩ : Addr).add j) = some u := by
        intro j u hu
        have hadd : (⟨g, 0, none⟩ : Addr).add j = ⟨g, j, none⟩ := by unfold Addr.add; split <;> simp_all
        rw [hadd, cell_of_row w g j cur 5 fz hg]
        rw [← htake, List.getElem?_take] at hu
        split at hu
        · simpa using hu
        · cases hu
      have hr2 := run_append_grow (P := Tryd.prog) w 39 ty 5 i (.int .u8 0) Tryd.underlying39 hi hz ⟨g, 0, none⟩ l.length cap (rowOf l).toList (by rw [hll, hsize, Nat.mul_one]) holds ⟨b, off, none⟩ m.length c (rowOf m).toList hnl hnews (by omega) (by omega) (growslice_fits (by omega) (by rw [hby]; omega))
      have hge := grownCap_ge w (l.length + m.length) cap 5
      have hcm2 : grownCap w (l.length + m.length) cap 5 ≤ maxLen := grownCap_le_maxLen w (l.length + m.length) cap 5 (by simp only [maxLen]; omega)
      refine ⟨_, _, hr2, .inr ⟨w.heap.size, _, _, (0, 0), by rw [List.length_append], hbase, heap_alloc_new w.drew _, fun j _ hc => by omega, by rw [List.length_append]; exact hge, hcm2, ?_, ?_⟩, ⟨rfl, rfl, rfl, by simp, fun k hk _ => heap_alloc_old w.drew _ hk⟩⟩
      · have hz1 : (Value.int IntKind.u8 0).cells.size = 1 := rfl
        simp only [Array.size_append, List.size_toArray, size_zeroCells, hz1, hll, hml]
        omega
      · simp only [Array.toList_append, List.append_assoc]
        rw [← List.append_assoc, hcat, ← hlt2]
        exact List.take_left
theorem strCells_of (m : List UInt8) : strCells (strOf m) = (rowOf m).toList := by simp [strCells, strOf, rowOf]
/-- append of a string onto it. -/
theorem run_appS (h : OwnT w base v l) (m : List UInt8) (ty : TypeId) (hsz : l.length + m.length ≤ 140737488355328) (hbase : base ≤ w.heap.size) :
    ∃ v' w', (Builtin.append_ #[39, 9] ty #[v, .string (strOf m)]).run Tryd.prog w = .ok v' w' ∧ OwnT w' base v' (l ++ m) ∧ w.grownBy w' v.ownBlock := by
  obtain ⟨i, hi, hz, hsize, hby⟩ := info_parts info8
  have hss : (strOf m).size = m.length := strOf_size m
  have hcat : (rowOf l).toList ++ (rowOf m).toList = (rowOf (l ++ m)).toList := by simp [rowOf]
  have hll : (rowOf l).toList.length = l.length := by simp [rowOf]
  have hml : (rowOf m).toList.length = m.length := by simp [rowOf]
  have hlt2 : (rowOf (l ++ m)).toList.length = (l ++ m).length := by simp [rowOf]
  rcases h with ⟨rfl, rfl⟩ | ⟨g, cap, cur, fz, rfl, hbg, hg, hfz, hnc, hcm, hcs, htake⟩
  · obtain ⟨v', w', h1, h2, h3, _⟩ := run_append_own_string (P := Tryd.prog) w base 39 9 ty 5 i Tryd.underlying39 Tryd.underlying9 hi hz hsize hby (.slice none 0 0) 0 [] (World.ownsRow_nil w base 5 1) (strOf m) (by rw [hss]; simp at hsz; simp only [maxLen]; omega) (by rw [hss]; simpa using hsz) hbase
    refine ⟨v', w', h1, OwnT.of_own ?_, h3⟩
    rw [hss, strCells_of] at h2
    unfold Own8
    simpa using h2
  · by_cases hroom : l.length + m.length ≤ cap
    · have hf := run_firstCells_string (P := Tryd.prog) w 1 (strOf m)
      have hst := storeCells_mark Tryd.prog g l.length 5 fz (strCells (strOf m)) 0 cur w hg hfz (by rw [strCells_length, hss]; omega) (strCells_oneCell _)
      simp only [Nat.add_zero] at hst
      rw [strCells_of] at hf hst
      rw [hss] at hf
      refine ⟨.slice (some ⟨g, 0, none⟩) (l.length + m.length) cap, w.setRow g (cur.toList.take l.length ++ (rowOf m).toList ++ cur.toList.drop (l.length + (rowOf m).toList.length)).toArray, ?_, .inr ⟨g, cap, _, fz, by rw [List.length_append], hbg, setRow_heap w g cur _ 5 fz hg, ?_, by rw [List.length_append]; exact hroom, hcm, ?_, ?_⟩, ⟨rfl, rfl, rfl, by simp, fun k _ hk => setRow_other w g k _ (fun e => hk (by simp [Value.ownBlock, e]))⟩⟩
      · simp [Builtin.append_, run_underlying Tryd.underlying39, run_underlying Tryd.underlying9, sizeOf, typeInfo, hi, hsize, Builtin.lenOf, hss, hroom, hf, Addr.add_lit, hst]
      · intro j hj
        refine hfz j ?_
        simp only [List.size_toArray, List.length_append, List.length_take, List.length_drop, Array.length_toList, hml] at hj
        omega
      · simp only [List.size_toArray, List.length_append, List.length_take, List.length_drop, Array.length_toList, hml]
        omega
      · rw [htake, hcat, ← hlt2]
        exact List.take_left
    · have holds : ∀ j u, (rowOf l).toList[j]? = some u → w.cell? ((⟨g, 0, none⟩ : Addr).add j) = some u := by
        intro j u hu
        have hadd : (⟨g, 0, none⟩ : Addr).add j = ⟨g, j, none⟩ := by unfold Addr.add; split <;> simp_all
        rw [hadd, cell_of_row w g j cur 5 fz hg]
        rw [← htake, List.getElem?_take] at hu
        split at hu
        · simpa using hu
        · cases hu
      have hr2 := run_append_grow_string (P := Tryd.prog) w 39 9 ty 5 i (.int .u8 0) Tryd.underlying39 Tryd.underlying9 hi hz ⟨g, 0, none⟩ l.length cap (rowOf l).toList (by rw [hll, hsize, Nat.mul_one]) holds (strOf m) (by rw [hss]; omega) (by rw [hss]; omega) (by rw [hss]; exact growslice_fits (by omega) (by rw [hby]; omega))
      rw [hss, strCells_of] at hr2
      have hge := grownCap_ge w (l.length + m.length) cap 5
      have hcm2 : grownCap w (l.length + m.length) cap 5 ≤ maxLen := grownCap_le_maxLen w (l.length + m.length) cap 5 (by simp only [maxLen]; omega)
      refine ⟨_, _, hr2, .inr ⟨w.heap.size, _, _, (0, 0), by rw [List.length_append], hbase, heap_alloc_new w.drew _, fun j _ hc => by omega, by rw [List.length_append]; exact hge, hcm2, ?_, ?_⟩, ⟨rfl, rfl, rfl, by simp, fun k hk _ => heap_alloc_old w.drew _ hk⟩⟩
      · have hz1 : (Value.int IntKind.u8 0).cells.size = 1 := rfl
        simp only [Array.size_append, List.size_toArray, size_zeroCells, hz1, hll, hml]
        omega
      · simp only [Array.toList_append, List.append_assoc]
        rw [← List.append_assoc, hcat, ← hlt2]
        exact List.take_left
theorem OwnT.form (h : OwnT w base v l) : ∃ A c, v = .slice A l.length c := by
  rcases h with ⟨hv, rfl⟩ | ⟨g, cap, cur, fz, hv, _⟩
  · exact ⟨none, 0, hv⟩
  · exact ⟨_, cap, hv⟩
theorem wpList_appT {ops : Array Oper} {rest : List Oper} {o : Oper} {a : Act} {Q : Exit → Act → World → Prop} (hgd : o.guard = none) (s x : Operand)
    (ho : o.op = .call { callee := .builtin .append, args := #[s, x], argTypes := #[39, 39] })
    (h : OwnT w base v l) (hs : a.eval s = v) {B : Nat} {A : Option Addr} {m : List UInt8} (n c : Nat) (hx : a.eval x = .slice A n c) (hr : Rd w B A m) (hn : m.length = n) (h0 : 0 < n)
    (hsz : l.length + n ≤ 140737488355328) (hbase : base ≤ w.heap.size)
    (hK : ∀ A' c' w', OwnT w' base (.slice A' (l.length + n) c') (l ++ m) → w.grownBy w' v.ownBlock → wpList Tryd.prog ops Q rest (a.put o.dst (.slice A' (l.length + n) c')) w') : wpList Tryd.prog ops Q (o :: rest) a w := by
  refine wpList_plain hgd fun _ hk => ?_
  obtain ⟨v', w', hrun, h2, h3⟩ := run_appT h hr n c hn o.type hsz hbase h0
  obtain ⟨A', c', hv⟩ := h2.form
  rw [List.length_append, hn] at hv
  subst hv
  unfold Oper.wp execOp
  simp only [ho, resolve, invoke, builtin, Sem.run_bind, Sem.run_pure, Result.andThen_ok, List.map_toArray, List.map_cons, List.map_nil, hs, hx, hrun]
  exact hk _ _ (hK A' c' w' h2 h3)
theorem wpList_appS {ops : Array Oper} {rest : List Oper} {o : Oper} {a : Act} {Q : Exit → Act → World → Prop} (hgd : o.guard = none) (s x : Operand)
    (ho : o.op = .call { callee := .builtin .append, args := #[s, x], argTypes := #[39, 9] })
    (h : OwnT w base v l) (hs : a.eval s = v) (m : List UInt8) (n : Nat) (hx : a.eval x = .string (strOf m)) (hn : m.length = n)
    (hsz : l.length + n ≤ 140737488355328) (hbase : base ≤ w.heap.size)
    (hK : ∀ A' c' w', OwnT w' base (.slice A' (l.length + n) c') (l ++ m) → w.grownBy w' v.ownBlock → wpList Tryd.prog ops Q rest (a.put o.dst (.slice A' (l.length + n) c')) w') : wpList Tryd.prog ops Q (o :: rest) a w := by
  refine wpList_plain hgd fun _ hk => ?_
  subst hn
  obtain ⟨v', w', hrun, h2, h3⟩ := run_appS h m o.type hsz hbase
  obtain ⟨A', c', hv⟩ := h2.form
  rw [List.length_append] at hv
  subst hv
  unfold Oper.wp execOp
  simp only [ho, resolve, invoke, builtin, Sem.run_bind, Sem.run_pure, Result.andThen_ok, List.map_toArray, List.map_cons, List.map_nil, hs, hx, hrun]
  exact hk _ _ (hK A' c' w' h2 h3)
end
end Go.Proofs.YtegfnlnbhhmkjaaDoor
