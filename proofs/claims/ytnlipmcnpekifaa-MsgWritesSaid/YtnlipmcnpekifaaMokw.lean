/-
  msg.Read: what stands in memory while a message is read.
-/
import Derived.Test.YtnlipmcnpekifaaMof
import Derived.Test.YtnlipmcnpekifaaMoj
import Derived.Test.YtnlipmcnpekifaaAm
namespace Go.Proofs.Ytnlipmcnpekifaa
set_option maxRecDepth 100000
open Go.RowKit
set_option linter.unusedVariables false
set_option linter.unusedSimpArgs false

/-- The message that is none. -/
def mgZ : MgA := ⟨0, 0, 0, 0, 0, 0, kr0, [], none, 0, [], none, 0, [], none, 0⟩
theorem zMsg (W : World) : (zeroValue 41).run Try.prog W = .ok (.agg (mgC mgZ).toArray) W := by kernel_rfl
theorem built_m0 : Try.prog.built 41 [] = some (mgC mgZ).toArray := by kernel_rfl
theorem i42 (q : MgA) (h : q.row.r.key.length = 32) : (Try.prog.info? 41).map (·.size) = some (mgC q).toArray.size := by rw [List.size_toArray, mgC_len q h]; kernel_rfl
theorem mgC_one (q : MgA) : (mgC q).toArray.all (·.oneCell') = true := by
  rw [Array.all_eq_true_iff_forall_mem]
  intro v hv
  have hv2 := List.mem_toArray.1 hv
  unfold mgC krC at hv2
  simp only [List.mem_append, List.mem_cons, List.not_mem_nil, or_false] at hv2
  rcases hv2 with (rfl | rfl | rfl | rfl | rfl | rfl) | (h | rfl) | rfl | rfl | rfl
  all_goals first | rfl | exact one_of_row _ v h
theorem mgC_lo (q : MgA) (j : Nat) (v : Value) (hj : j < 6) : (mgC q).toArray.setIfInBounds j v = ((([Value.int .i64 q.kind, Value.int .i64 q.frm, Value.int .i64 q.ask, Value.int .i64 q.err, Value.int .i64 q.for_, Value.int .i64 q.level] : List Value).set j v) ++ (krC q.row ++ [Value.slice q.aa q.ats.length q.ac, Value.slice q.da q.digs.length q.dc, Value.slice q.ra q.rows.length q.rc])).toArray := by
  rw [List.setIfInBounds_toArray, mgC, List.set_append_left _ _ (by simpa using hj)]
theorem mgC_up (q : MgA) (h : q.row.r.key.length = 32) (j : Nat) (v : Value) : (mgC q).toArray.setIfInBounds (39 + j) v = ([Value.int .i64 q.kind, Value.int .i64 q.frm, Value.int .i64 q.ask, Value.int .i64 q.err, Value.int .i64 q.for_, Value.int .i64 q.level] ++ (krC q.row ++ ([Value.slice q.aa q.ats.length q.ac, Value.slice q.da q.digs.length q.dc, Value.slice q.ra q.rows.length q.rc] : List Value).set j v)).toArray := by
  rw [List.setIfInBounds_toArray, mgC, List.set_append_right _ _ (by simp; omega), List.set_append_right _ _ (by rw [krC_len _ h]; simp; omega)]
  congr 4
  rw [krC_len _ h]
  simp
  omega
theorem mgC_mid (q : MgA) (h : q.row.r.key.length = 32) (x : KrA) (hx : x.r.key.length = 32) : ((mgC q).toArray.toList.take 6 ++ (krC x).toArray.toList ++ (mgC q).toArray.toList.drop (6 + (krC x).toArray.toList.length)).toArray = (mgC { q with row := x }).toArray := by
  have e1 : (mgC q).take 6 = [Value.int .i64 q.kind, .int .i64 q.frm, .int .i64 q.ask, .int .i64 q.err, .int .i64 q.for_, .int .i64 q.level] := by
    unfold mgC
    exact List.take_left' rfl
  have e0 : (mgC q).drop 6 = krC q.row ++ [Value.slice q.aa q.ats.length q.ac, Value.slice q.da q.digs.length q.dc, Value.slice q.ra q.rows.length q.rc] := by
    unfold mgC
    exact List.drop_left' rfl
  have e2 : (mgC q).drop (6 + 33) = [Value.slice q.aa q.ats.length q.ac, Value.slice q.da q.digs.length q.dc, Value.slice q.ra q.rows.length q.rc] := by
    rw [← List.drop_drop, e0]
    exact List.drop_left' (krC_len _ h)
  simp only [List.toList_toArray, krC_len _ hx]
  rw [e1, e2]
  unfold mgC
  simp only [List.append_assoc]
theorem mgC_key (q : MgA) (h : q.row.r.key.length = 32) (K : List UInt8) (hK : K.length = 32) : ((mgC q).toArray.toList.take 6 ++ (rowOf K).toList ++ (mgC q).toArray.toList.drop (6 + (rowOf K).toList.length)).toArray = (mgC { q with row := ⟨⟨K, q.row.r.set⟩, q.row.sa, q.row.sc⟩ }).toArray := by
  have e1 : (mgC q).take 6 = [Value.int .i64 q.kind, .int .i64 q.frm, .int .i64 q.ask, .int .i64 q.err, .int .i64 q.for_, .int .i64 q.level] := by
    unfold mgC
    exact List.take_left' rfl
  have hl : (rowOf q.row.r.key).toList.length = 32 := by simp [rowOf, h]
  have e0 : (mgC q).drop 6 = krC q.row ++ [Value.slice q.aa q.ats.length q.ac, Value.slice q.da q.digs.length q.dc, Value.slice q.ra q.rows.length q.rc] := by
    unfold mgC
    exact List.drop_left' rfl
  have e2 : (mgC q).drop (6 + 32) = [Value.slice q.row.sa q.row.r.set.length q.row.sc, Value.slice q.aa q.ats.length q.ac, Value.slice q.da q.digs.length q.dc, Value.slice q.ra q.rows.length q.rc] := by
    rw [← List.drop_drop, e0]
    unfold krC
    rw [List.append_assoc]
    exact List.drop_left' hl
  have hk : (rowOf K).toList.length = 32 := by simp [rowOf, hK]
  simp only [List.toList_toArray, hk]
  rw [e1, e2]
  unfold mgC krC
  simp only [List.append_assoc, List.cons_append, List.nil_append]
theorem run_storeVar_midM {P : Program} {w : World} {g : Nat} {t : TypeId} {cs : Array Value} (hb : Bk w g t cs) (ty : TypeId) (o : Nat) (vs : Array Value) (hi : (P.info? ty).map (·.size) = some vs.size) (hl : o + vs.size ≤ cs.size) (h1 : ∀ v ∈ vs.toList, v.oneCell' = true) :
    (storeVar ty ⟨g, o, none⟩ (.agg vs)).run P w = .ok () (w.setRow g (cs.toList.take o ++ vs.toList ++ cs.toList.drop (o + vs.toList.length)).toArray) := by
  obtain ⟨i, hi1, hi2⟩ := Option.map_eq_some_iff.1 hi
  have h := storeCells_mark P g o t (0, 0) vs.toList 0 cs w hb (fun j _ hc => by simp only at hc; omega) (by simpa using hl) h1
  simp only [Nat.add_zero] at h
  simp [storeVar, sizeOf, typeInfo, hi1, hi2, Value.cells, Sem.run_bind, h]
theorem wpList_store_midM {P : Program} {ops : Array Oper} {rest : List Oper} {o : Oper} {a : Act} {w : World} {Q : Exit → Act → World → Prop} (hgd : o.guard = none) (ty : TypeId) (x y : Operand) (ho : o.op = .store ty x y) (g off : Nat) (hx : a.eval x = .pointer (some ⟨g, off, none⟩)) (vs : Array Value) (hy : a.eval y = .agg vs)
    (t : TypeId) (cs : Array Value) (hb : Bk w g t cs) (hi : (P.info? ty).map (·.size) = some vs.size) (hl : off + vs.size ≤ cs.size) (h1 : ∀ v ∈ vs.toList, v.oneCell' = true)
    (hk : ∀ w', Bk w' g t (cs.toList.take off ++ vs.toList ++ cs.toList.drop (off + vs.toList.length)).toArray → w.grownBy w' (some g) → w'.heap.size = w.heap.size → wpList P ops Q rest (a.put o.dst undef) w') : wpList P ops Q (o :: rest) a w := by
  refine wpList_plain hgd fun K hKK => ?_
  have h := run_storeVar_midM hb ty off vs hi hl h1
  unfold Oper.wp execOp
  simp only [ho, hx, hy, Instr.storeAt, Instr.sureAddr, Sem.run_bind, Sem.run_pure, Result.andThen_ok, h]
  exact hKK _ _ (hk _ (hb.rowed _) (grown_row (World.grownBy.refl w _) _) (by simp))
theorem krC_ones (q : KrA) : ∀ v ∈ (krC q).toArray.toList, v.oneCell' = true := fun v hv => by
  have hv2 : v ∈ (rowOf q.r.key).toList ++ [Value.slice q.sa q.r.set.length q.sc] := by
    simp only [List.toList_toArray] at hv
    exact hv
  rcases List.mem_append.1 hv2 with h | h
  · exact one_of_row _ v h
  · rw [List.mem_singleton.1 h]; rfl
theorem results_cell_slotM {P : Program} {fn : Func} {p q : Tmp} {ty : TypeId} (h : fn.results = #[.cell p ty, .tmp q]) (tmps : Array Value) (w : World) (g : Nat) {v v' : Value}
    (hp : tmps.getD p undef = .pointer (some ⟨g, 0, none⟩)) (hq : tmps.getD q undef = v')
    (h1 : (loadVar ty ⟨g, 0, none⟩).run P w = .ok v w) :
    (results fn tmps).run P w = .ok (.tuple #[v, v']) w := by
  have hp' : tmps[p]?.getD undef = .pointer (some ⟨g, 0, none⟩) := by simpa using hp
  have hq' : tmps[q]?.getD undef = v' := by simpa using hq
  simp [results, h, hp', hq', asAddr, h1]
/-- What stands in memory while a message is read: the answer's cell, the in, the message so far. -/
structure RmS (w : World) (g gb gM gi : Nat) (F : List Nat) (q : MgA) (l : List UInt8) (e : Int) (W : World) : Prop where
  r0 : Bk W g 41 (mgC mgZ).toArray
  bx : Bk W gb 79 #[.pointer (some ⟨gi, 0, none⟩)]
  m : Bk W gM 41 (mgC q).toArray
  inf : InF W gi l e F
  bel : Below g w W
  far : ∀ k ∈ F, g < k ∧ k < gb
  ord : gb < gM
section
variable {w W W' : World} {g gb gM gi : Nat} {F : List Nat} {q q' : MgA} {l l' : List UInt8} {e e' : Int}
theorem RmS.gi_ (h : RmS w g gb gM gi F q l e W) : g < gi ∧ gi < gb := h.far gi h.inf.lt.1
theorem RmS.read (h : RmS w g gb gM gi F q l e W) (hi : InF W' gi l' e' F) (hu : Untouched [gi] W W') : RmS w g gb gM gi F q l' e' W' := by
  have h1 := h.gi_
  have h2 := h.ord
  exact ⟨h.r0.untouched hu (by simp; omega), h.bx.untouched hu (by simp; omega), h.m.untouched hu (by simp; omega), hi, h.bel.trans (hu.below (fun k hk => by rw [List.mem_singleton.1 hk]; omega) (Nat.le_of_lt h.r0.lt)), h.far, h.ord⟩
theorem RmS.put (h : RmS w g gb gM gi F q l e W) (hb : Bk W' gM 41 (mgC q').toArray) (hu : Untouched [gM] W W') : RmS w g gb gM gi F q' l e W' := by
  have h1 := h.gi_
  have h2 := h.ord
  exact ⟨h.r0.untouched hu (by simp; omega), h.bx.untouched hu (by simp; omega), hb, h.inf.apart hu (fun k hk => by have := h.far k hk; simp; omega), h.bel.trans (hu.below (fun k hk => by rw [List.mem_singleton.1 hk]; omega) (Nat.le_of_lt h.r0.lt)), h.far, h.ord⟩
theorem RmS.small (h : RmS w g gb gM gi F q l e W) (most : Int) (w0 : -9223372036854775808 ≤ most) (w1 : most ≤ 9223372036854775807) {v : Int} (hv : numS 1 most l e = (v, l', e')) :
    Calls Try.prog 32 #[.pointer (some ⟨gi, 0, none⟩), .int .i64 most] W fun r w' => r = .returned (.int .i64 v) ∧ RmS w g gb gM gi F q l' e' w' := by
  refine (insmall_any W gi most l e F h.inf w0 w1).mono fun r w' hh => ?_
  unfold NumP at hh
  rw [hv] at hh
  exact ⟨hh.1, h.read hh.2.1 hh.2.2⟩
theorem RmS.num (h : RmS w g gb gM gi F q l e W) (most : Int) (w0 : -9223372036854775808 ≤ most) (w1 : most ≤ 9223372036854775807) {v : Int} (hv : numS 8 most l e = (v, l', e')) :
    Calls Try.prog 33 #[.pointer (some ⟨gi, 0, none⟩), .int .i64 most] W fun r w' => r = .returned (.int .i64 v) ∧ RmS w g gb gM gi F q l' e' w' := by
  refine (innum_any W gi most l e F h.inf w0 w1).mono fun r w' hh => ?_
  unfold NumP at hh
  rw [hv] at hh
  exact ⟨hh.1, h.read hh.2.1 hh.2.2⟩
theorem RmS.lts (h : RmS w g gb gM gi F q l e W) : ∀ k ∈ F, k < W.heap.size := fun k hk => by have := h.far k hk; have := h.ord; have := h.m.lt; omega
end
/-- What Read tells. -/
def RdMP (l : List UInt8) (w : World) (e : Ending) (w' : World) : Prop :=
  ∃ (q : MgA) (er : Int), e = .returned (.tuple #[.agg (mgC q).toArray, .int .i64 er]) ∧ Below w.heap.size w w' ∧ q.Ok w' w'.heap.size ∧ (endS (rdMg l).2.1 (rdMg l).2.2 = 0 → er = 0 ∧ q.v = (rdMg l).1) ∧ (endS (rdMg l).2.1 (rdMg l).2.2 ≠ 0 → er = 2 ∧ q = mgZ)
theorem mgZ_ok (w : World) (B : Nat) : mgZ.Ok w B :=
  ⟨⟨zbytes_len 32, Rd.nil, Nat.zero_le _, by decide⟩, RdG.nil, ⟨Nat.zero_le _, by decide⟩, RdG.nil, ⟨Nat.zero_le _, by decide⟩, fun _ h => (by cases h), RdG.nil, ⟨Nat.zero_le _, by decide⟩, fun _ h => (by cases h)⟩
theorem kr0_ok (w : World) (B : Nat) : kr0.Ok w B := ⟨zbytes_len 32, Rd.nil, Nat.zero_le _, by decide⟩
theorem Own8.okr {w : World} {base : Nat} {A : Option Addr} {n c : Nat} {s K : List UInt8} (h : Own8 w base (.slice A s.length c) s) (hK : K.length = 32) : (⟨⟨K, s⟩, A, c⟩ : KrA).Ok w w.heap.size := ⟨hK, h.rd.1, h.cap⟩
end Go.Proofs.Ytnlipmcnpekifaa
