/-
  Merged: Mokw Mok.
-/
import Derived.Test.YtegfnlnbhhmkjaaDoorMD
import Derived.Test.YtegfnlnbhhmkjaaDoorMH
import Derived.Test.YtegfnlnbhhmkjaaDoorAm
namespace Go.Proofs.YtegfnlnbhhmkjaaDoor
set_option maxRecDepth 100000
open Go.RowKit
set_option linter.unusedVariables false
set_option linter.unusedSimpArgs false

/-- The message that is none. -/
def mgZ : MgA := ⟨0, 0, 0, 0, 0, 0, kr0, [], none, 0, [], none, 0, [], none, 0⟩
theorem zMsg (W : World) : (zeroValue 45).run Tryd.prog W = .ok (.agg (mgC mgZ).toArray) W := by kernel_rfl
theorem built_m0 : Tryd.prog.built 45 [] = some (mgC mgZ).toArray := by kernel_rfl
theorem i42 (q : MgA) (h : q.row.r.key.length = 32) : (Tryd.prog.info? 45).map (·.size) = some (mgC q).toArray.size := by rw [List.size_toArray, mgC_len q h]; kernel_rfl
theorem mgC_one (q : MgA) : (mgC q).toArray.all (·.oneCell') = true := by
  rw [Array.all_eq_true_iff_forall_mem]
  intro v hv
  have hv2 := List.mem_toArray.1 hv
  unfold mgC krC at hv2
  simp only [List.mem_append, List.mem_cons, List.not_mem_nil, or_false] at hv2
  rcases hv2 with (rfl | rfl | rfl | rfl | rfl | rfl) | (h | rfl) | rfl | rfl | rfl
  all_goals first | rfl | exact one_of_row _ v h
theorem mgC_lo (q : MgA) (j : Nat) (v : Value) (hj : j < 6) : (mgC q).toArray.setIfInBounds j v = ((([Value.int .i64 q.kind, Value.int .i64 q.frm, Value.int .i64 q.ask, Value.int .i64 q.err, Value.int .i64 q.for_, Value.int .i64 q.level] : List Value).set j v) ++ (krC q.row ++ [Value.slice q.aa q.ats.length q.ac, Value.slice q.da q.digs.length q.dc, Value.slice q.ra q.rows.length q.rc])).toArray := by
  rw [List.setIfInBounds_toArray, mgC, List.set_append_left _ _ (by simpa using hj)]
theorem mgC_up (q : MgA) (h : q.row.r.key.length = 32) (j : Nat) (v : Value) : (mgC q).toArray.setIfInBounds (39 + j) v = ([Value.int .i64 q.kind, Value.int .i64 q.frm, Value.int .i64 q.ask, Value.int .i64 q.err, Value.int .i64 q.for_, Value.int .i64 q.level] ++ (krC q.row ++ ([Value.slice q.aa q.ats.length q.ac, Value.slice q.da q.digs.length q.dc, Value.slice q.ra q.rows.length q.rc] : List Value).set j v)).toArray := by
  rw [List.setIfInBounds_toArray, mgC, List.set_append_right _ _ (by simp; omega), List.set_append_right _ _ (by rw [krC_len _ h]; simp; omega)]
  congr 4
  rw [krC_len _ h]
  simp
  omega
theorem mgC_mid (q : MgA) (h : q.row.r.key.length = 32) (x : KrA) (hx : x.r.key.length = 32) : ((mgC q).toArray.toList.take 6 ++ (krC x).toArray.toList ++ (mgC q).toArray.toList.drop (6 + (krC x).toArray.toList.length)).toArray = (mgC { q with row := x }).toArray := by
  have e1 : (mgC q).take 6 = [Value.int .i64 q.kind, .int .i64 q.frm, .int .i64 q.ask, .int .i64 q.err, .int .i64 q.for_, .int .i64 q.level] := by
    unfold mgC
    exact List.take_left' rfl
  have e0 : (mgC q).drop 6 = krC q.row ++ [Value.slice q.aa q.ats.length q.ac, Value.slice q.da q.digs.length q.dc, Value.slice q.ra q.rows.length q.rc] := by
    unfold mgC
    exact List.drop_left' rfl
  have e2 : (mgC q).drop (6 + 33) = [Value.slice q.aa q.ats.length q.ac, Value.slice q.da q.digs.length q.dc, Value.slice q.ra q.rows.length q.rc] := by
    rw [← List.drop_drop, e0]
    exact List.drop_left' (krC_len _ h)
  simp only [List.toList_toArray, krC_len _ hx]
  rw [e1, e2]
  unfold mgC
  simp only [List.append_assoc]
theorem mgC_key (q : MgA) (h : q.row.r.key.length = 32) (K : List UInt8) (hK : K.length = 32) : ((mgC q).toArray.toList.take 6 ++ (rowOf K).toList ++ (mgC q).toArray.toList.drop (6 + (rowOf K).toList.length)).toArray = (mgC { q with row := ⟨⟨K, q.row.r.set⟩, q.row.sa, q.row.sc⟩ }).toArray := by
  have e1 : (mgC q).take 6 = [Value.int .i64 q.kind, .int .i64 q.frm, .int .i64 q.ask, .int .i64 q.err, .int .i64 q.for_, .int .i64 q.level] := by
    unfold mgC
    exact List.take_left' rfl
  have hl : (rowOf q.row.r.key).toList.length = 32 := by simp [rowOf, h]
  have e0 : (mgC q).drop 6 = krC q.row ++ [Value.slice q.aa q.ats.length q.ac, Value.slice q.da q.digs.length q.dc, Value.slice q.ra q.rows.length q.rc] := by
    unfold mgC
    exact List.drop_left' rfl
  have e2 : (mgC q).drop (6 + 32) = [Value.slice q.row.sa q.row.r.set.length q.row.sc, Value.slice q.aa q.ats.length q.ac, Value.slice q.da q.digs.length q.dc, Value.slice q.ra q.rows.length q.rc] := by
    rw [← List.drop_drop, e0]
    unfold krC
    rw [List.append_assoc]
    exact List.drop_left' hl
  have hk : (rowOf K).toList.length = 32 := by simp [rowOf, hK]
  simp only [List.toList_toArray, hk]
  rw [e1, e2]
  unfold mgC krC
  simp only [List.append_assoc, List.cons_append, List.nil_append]
theorem run_storeVar_midM {P : Program} {w : World} {g : Nat} {t : TypeId} {cs : Array Value} (hb : Bk w g t cs) (ty : TypeId) (o : Nat) (vs : Array Value) (hi : (P.info? ty).map (·.size) = some vs.size) (hl : o + vs.size ≤ cs.size) (h1 : ∀ v ∈ vs.toList, v.oneCell' = true) :
    (storeVar ty ⟨g, o, none⟩ (.agg vs)).run P w = .ok () (w.setRow g (cs.toList.take o ++ vs.toList ++ cs.toList.drop (o + vs.toList.length)).toArray) := by
  obtain ⟨i, hi1, hi2⟩ := Option.map_eq_some_iff.1 hi
  have h := storeCells_mark P g o t (0, 0) vs.toList 0 cs w hb (fun j _ hc => by simp only at hc; omega) (by simpa using hl) h1
  simp only [Nat.add_zero] at h
  simp [storeVar, sizeOf, typeInfo, hi1, hi2, Value.cells, Sem.run_bind, h]
theorem wpList_store_midM {P : Program} {ops : Array Oper} {rest : List Oper} {o : Oper} {a : Act} {w : World} {Q : Exit → Act → World → Prop} (hgd : o.guard = none) (ty : TypeId) (x y : Operand) (ho : o.op = .store ty x y) (g off : Nat) (hx : a.eval x = .pointer (some ⟨g, off, none⟩)) (vs : Array Value) (hy : a.eval y = .agg vs)
    (t : TypeId) (cs : Array Value) (hb : Bk w g t cs) (hi : (P.info? ty).map (·.size) = some vs.size) (hl : off + vs.size ≤ cs.size) (h1 : ∀ v ∈ vs.toList, v.oneCell' = true)
    (hk : ∀ w', Bk w' g t (cs.toList.take off ++ vs.toList ++ cs.toList.drop (off + vs.toList.length)).toArray → w.grownBy w' (some g) → w'.heap.size = w.heap.size → wpList P ops Q rest (a.put o.dst undef) w') : wpList P ops Q (o :: rest) a w := by
  refine wpList_plain hgd fun K hKK => ?_
  have h := run_storeVar_midM hb ty off vs hi hl h1
  unfold Oper.wp execOp
  simp only [ho, hx, hy, Instr.storeAt, Instr.sureAddr, Sem.run_bind, Sem.run_pure, Result.andThen_ok, h]
  exact hKK _ _ (hk _ (hb.rowed _) (grown_row (World.grownBy.refl w _) _) (by simp))
theorem krC_ones (q : KrA) : ∀ v ∈ (krC q).toArray.toList, v.oneCell' = true := fun v hv => by
  have hv2 : v ∈ (rowOf q.r.key).toList ++ [Value.slice q.sa q.r.set.length q.sc] := by
    simp only [List.toList_toArray] at hv
    exact hv
  rcases List.mem_append.1 hv2 with h | h
  · exact one_of_row _ v h
  · rw [List.mem_singleton.1 h]; rfl
theorem results_cell_slotM {P : Program} {fn : Func} {p q : Tmp} {ty : TypeId} (h : fn.results = #[.cell p ty, .tmp q]) (tmps : Array Value) (w : World) (g : Nat) {v v' : Value}
    (hp : tmps.getD p undef = .pointer (some ⟨g, 0, none⟩)) (hq : tmps.getD q undef = v')
    (h1 : (loadVar ty ⟨g, 0, none⟩).run P w = .ok v w) :
    (results fn tmps).run P w = .ok (.tuple #[v, v']) w := by
  have hp' : tmps[p]?.getD undef = .pointer (some ⟨g, 0, none⟩) := by simpa using hp
  have hq' : tmps[q]?.getD undef = v' := by simpa using hq
  simp [results, h, hp', hq', asAddr, h1]
/-- What stands in memory while a message is read: the answer's cell, the in, the message so far. -/
structure RmS (w : World) (g gb gM gi : Nat) (F : List Nat) (q : MgA) (l : List UInt8) (e : Int) (W : World) : Prop where
  r0 : Bk W g 45 (mgC mgZ).toArray
  bx : Bk W gb 96 #[.pointer (some ⟨gi, 0, none⟩)]
  m : Bk W gM 45 (mgC q).toArray
  inf : InFc W gi l e F
  bel : Below g w W
  far : ∀ k ∈ F, g < k ∧ k < gb
  ord : gb < gM
section
variable {w W W' : World} {g gb gM gi : Nat} {F : List Nat} {q q' : MgA} {l l' : List UInt8} {e e' : Int}
theorem RmS.gi_ (h : RmS w g gb gM gi F q l e W) : g < gi ∧ gi < gb := h.far gi h.inf.lt.1
theorem RmS.read (h : RmS w g gb gM gi F q l e W) (hi : InFc W' gi l' e' F) (hu : Untouched [gi] W W') : RmS w g gb gM gi F q l' e' W' := by
  have h1 := h.gi_
  have h2 := h.ord
  exact ⟨h.r0.untouched hu (by simp; omega), h.bx.untouched hu (by simp; omega), h.m.untouched hu (by simp; omega), hi, h.bel.trans (hu.below (fun k hk => by rw [List.mem_singleton.1 hk]; omega) (Nat.le_of_lt h.r0.lt)), h.far, h.ord⟩
theorem RmS.put (h : RmS w g gb gM gi F q l e W) (hb : Bk W' gM 45 (mgC q').toArray) (hu : Untouched [gM] W W') : RmS w g gb gM gi F q' l e W' := by
  have h1 := h.gi_
  have h2 := h.ord
  exact ⟨h.r0.untouched hu (by simp; omega), h.bx.untouched hu (by simp; omega), hb, h.inf.apart hu (fun k hk => by have := h.far k hk; simp; omega), h.bel.trans (hu.below (fun k hk => by rw [List.mem_singleton.1 hk]; omega) (Nat.le_of_lt h.r0.lt)), h.far, h.ord⟩
theorem RmS.small (h : RmS w g gb gM gi F q l e W) (most : Int) (w0 : -9223372036854775808 ≤ most) (w1 : most ≤ 9223372036854775807) {v : Int} (hv : numS 1 most l e = (v, l', e')) :
    Calls Tryd.prog 36 #[.pointer (some ⟨gi, 0, none⟩), .int .i64 most] W fun r w' => r = .returned (.int .i64 v) ∧ RmS w g gb gM gi F q l' e' w' := by
  refine (insmall_any W gi most l e F h.inf w0 w1).mono fun r w' hh => ?_
  unfold NumP at hh
  rw [hv] at hh
  exact ⟨hh.1, h.read hh.2.1 hh.2.2⟩
theorem RmS.num (h : RmS w g gb gM gi F q l e W) (most : Int) (w0 : -9223372036854775808 ≤ most) (w1 : most ≤ 9223372036854775807) {v : Int} (hv : numS 8 most l e = (v, l', e')) :
    Calls Tryd.prog 37 #[.pointer (some ⟨gi, 0, none⟩), .int .i64 most] W fun r w' => r = .returned (.int .i64 v) ∧ RmS w g gb gM gi F q l' e' w' := by
  refine (innum_any W gi most l e F h.inf w0 w1).mono fun r w' hh => ?_
  unfold NumP at hh
  rw [hv] at hh
  exact ⟨hh.1, h.read hh.2.1 hh.2.2⟩
theorem RmS.lts (h : RmS w g gb gM gi F q l e W) : ∀ k ∈ F, k < W.heap.size := fun k hk => by have := h.far k hk; have := h.ord; have := h.m.lt; omega
end
/-- What Read tells. -/
def RdMP (l : List UInt8) (w : World) (e : Ending) (w' : World) : Prop :=
  ∃ (q : MgA) (er : Int), e = .returned (.tuple #[.agg (mgC q).toArray, .int .i64 er]) ∧ Below w.heap.size w w' ∧ q.Ok w' w'.heap.size ∧ (endS (rdMg l).2.1 (rdMg l).2.2 = 0 → er = 0 ∧ q.v = (rdMg l).1) ∧ (endS (rdMg l).2.1 (rdMg l).2.2 ≠ 0 → er = 2 ∧ q = mgZ)
theorem mgZ_ok (w : World) (B : Nat) : mgZ.Ok w B :=
  ⟨⟨zbytes_len 32, Rd.nil, Nat.zero_le _, by decide⟩, RdG.nil, ⟨Nat.zero_le _, by decide⟩, RdG.nil, ⟨Nat.zero_le _, by decide⟩, fun _ h => (by cases h), RdG.nil, ⟨Nat.zero_le _, by decide⟩, fun _ h => (by cases h)⟩
theorem kr0_ok (w : World) (B : Nat) : kr0.Ok w B := ⟨zbytes_len 32, Rd.nil, Nat.zero_le _, by decide⟩
theorem Own8.okr {w : World} {base : Nat} {A : Option Addr} {n c : Nat} {s K : List UInt8} (h : Own8 w base (.slice A s.length c) s) (hK : K.length = 32) : (⟨⟨K, s⟩, A, c⟩ : KrA).Ok w w.heap.size := ⟨hK, h.rd.1, h.cap⟩
end Go.Proofs.YtegfnlnbhhmkjaaDoor

namespace Go.Proofs.YtegfnlnbhhmkjaaDoor
set_option maxRecDepth 100000
open Go.RowKit
set_option linter.unusedVariables false
set_option linter.unusedSimpArgs false

set_option maxRecDepth 100000 in
set_option maxHeartbeats 16000000 in
theorem read_any (w : World) (A0 : Option Addr) (n0 c0 : Nat) (l : List UInt8) (hn : l.length = n0) (hr : Rd w w.heap.size A0 l) (hm : n0 ≤ 140737488355328) :
    Calls Tryd.prog 12 #[.slice A0 n0 c0] w (RdMP l w) := by
  obtain ⟨g, hg⟩ : ∃ g, w.heap.size = g := ⟨_, rfl⟩
  obtain ⟨w1, hw1⟩ : ∃ x, w.alloc (.cells (mgC mgZ).toArray 45) = x := ⟨_, rfl⟩
  have R1 := hidm_ (show Bk w1 g 45 (mgC mgZ).toArray by rw [← hw1, ← hg]; exact Bk.new w _ _)
  have X1 := hidm_ (show Below g w w1 by rw [← hw1, ← hg]; exact (Below.refl _ _).alloc (Nat.le_refl _) _)
  have S1 := hidm_ (show w1.heap.size = g + 1 by rw [← hw1, ← hg]; simp)
  rw [hg] at hr
  have co := of_any w1 A0 n0 c0 l hn ((hr.below X1.out).more (by rw [S1.out]; omega)) hm
  have HG := hidm_ hg
  have hz := zMsg
  have hml := hidm_ (show l.length ≤ 140737488355328 by rw [hn]; exact hm)
  obtain ⟨k, l1, e1, h1⟩ : ∃ a b c, numS 1 7 l 0 = (a, b, c) := ⟨_, _, _, rfl⟩
  obtain ⟨f, l2, e2, h2⟩ : ∃ a b c, numS 1 8 l1 e1 = (a, b, c) := ⟨_, _, _, rfl⟩
  obtain ⟨a, l3, e3, h3⟩ : ∃ a b c, numS 8 4611686018427387904 l2 e2 = (a, b, c) := ⟨_, _, _, rfl⟩
  have HD := hidm_ (rdMg_of h1 h2 h3)
  have HL3 := hidm_ (show l3.length ≤ 140737488355328 by
    have q1 := numS_le 1 7 l 0
    have q2 := numS_le 1 8 l1 e1
    have q3 := numS_le 8 4611686018427387904 l2 e2
    rw [h1] at q1
    rw [h2] at q2
    rw [h3] at q3
    have := hml.out
    simp only at q1 q2 q3
    omega)
  have H1 := hidm_ h1
  have H2 := hidm_ h2
  have H3 := hidm_ h3
  clear hn hr hm h1 h2 h3
  go_enter Tryd.func12, Tryd.ntmps12
  go_upto_region 3 with (first
    | (go_at_call 35; ((with_reducible refine co.mono ?_); clear co; rintro e w2 ⟨gi, F, rfl, hI, hF, hb⟩; have I2 := hidm_ hI; have F2 := hidm_ hF; have B2 := hidm_ hb; obtain ⟨w3, hw3⟩ : ∃ x, w2.alloc (.cells #[.pointer (some ⟨gi, 0, none⟩)] 96) = x := ⟨_, rfl⟩; have B3 := hidm_ (show Below w2.heap.size w2 w3 by rw [← hw3]; exact (Below.refl _ _).alloc (Nat.le_refl _) _); have P3 := hidm_ (show Bk w3 w2.heap.size 96 #[.pointer (some ⟨gi, 0, none⟩)] by rw [← hw3]; exact Bk.new w2 _ _); clear hI hF hb))
    | fail)
  clear hw1 hg
  try simp only [hw3]
  obtain ⟨gb, hgb⟩ : ∃ x, w2.heap.size = x := ⟨_, rfl⟩
  have S3 := hidm_ (show w3.heap.size = gb + 1 by rw [← hw3, ← hgb]; simp)
  obtain ⟨w4, hw4⟩ : ∃ x, w3.alloc (.cells (mgC mgZ).toArray 45) = x := ⟨_, rfl⟩
  obtain ⟨gM, hgM⟩ : ∃ x, w3.heap.size = x := ⟨_, rfl⟩
  have T0 := hidm_ (show RmS w g gb gM gi F mgZ l 0 w4 by
    have b4 : Below w3.heap.size w3 w4 := by rw [← hw4]; exact (Below.refl _ _).alloc (Nat.le_refl _) _
    have hs2 := B2.out.size
    have hs1 := S1.out
    have hs3 := S3.out
    have r2 := R1.out.below B2.out R1.out.lt
    have r3 := r2.below B3.out r2.lt
    refine ⟨r3.below b4 r3.lt, ?_, ?_, ?_, ?_, fun k hk => ?_, ?_⟩
    · rw [← hgb]; exact P3.out.below b4 P3.out.lt
    · rw [← hw4, ← hgM]; exact Bk.new w3 _ _
    · exact (I2.out.unt B3.out).unt b4
    · exact X1.out.trans ((B2.out.mono (by omega)).trans ((B3.out.mono (by omega)).trans (b4.mono (by omega))))
    · have := F2.out k hk; omega
    · omega)
  simp only [hgb, hgM, hw4]
  clear hw3 hw4 hgb R1 X1 S1 I2 F2 B2 B3 P3 S3 hgM hz
  have cc := T0.out.small 7 (by omega) (by omega) H1.out
  have hcb := T0.out.bx.cell 0
  go_upto_region 4 with (go_at_call 36; ((with_reducible refine cc.mono ?_); clear cc; rintro e v0 ⟨rfl, hs⟩; have S0 := hidm_ hs; have hcz := (hs.m.cell 0); have hfz := hs.m.frozen 0; simp only [mgC, List.getElem?_toArray, List.cons_append, List.getElem?_cons_zero, List.getElem?_cons_succ, mgZ] at hcz; clear hs))
  generalize hu : v0.setCell _ _ = u1
  have UT : Untouched [gM] v0 u1 := by rw [← hu]; exact Untouched.set gM 0 (by simp) _
  have T1 := hidm_ (show RmS w g gb gM gi F ⟨k, 0, 0, 0, 0, 0, kr0, [], none, 0, [], none, 0, [], none, 0⟩ _ _ u1 from S0.out.put (by rw [← hu]; have k9 := S0.out.m.set_ 0 (.int .i64 k); rw [mgC_lo _ 0 _ (by decide)] at k9; exact k9) UT)
  clear UT hu hcz hfz hcb S0 T0
  have cc := T1.out.small 8 (by omega) (by omega) H2.out
  have hcb := T1.out.bx.cell 0
  go_upto_region 5 with (go_at_call 36; ((with_reducible refine cc.mono ?_); clear cc; rintro e v1 ⟨rfl, hs⟩; have S1 := hidm_ hs; have hcz := (hs.m.cell 1); have hfz := hs.m.frozen 1; simp only [mgC, List.getElem?_toArray, List.cons_append, List.getElem?_cons_zero, List.getElem?_cons_succ] at hcz; clear hs))
  generalize hu : v1.setCell _ _ = u2
  have UT : Untouched [gM] v1 u2 := by rw [← hu]; exact Untouched.set gM 1 (by simp) _
  have T2 := hidm_ (show RmS w g gb gM gi F ⟨k, f, 0, 0, 0, 0, kr0, [], none, 0, [], none, 0, [], none, 0⟩ _ _ u2 from S1.out.put (by rw [← hu]; have k9 := S1.out.m.set_ 1 (.int .i64 f); rw [mgC_lo _ 1 _ (by decide)] at k9; exact k9) UT)
  clear UT hu hcz hfz hcb S1 T1
  have cc := T2.out.num 4611686018427387904 (by omega) (by omega) H3.out
  have hcb := T2.out.bx.cell 0
  go_upto_region 6 with (go_at_call 37; ((with_reducible refine cc.mono ?_); clear cc; rintro e v2 ⟨rfl, hs⟩; have S2 := hidm_ hs; have hcz := (hs.m.cell 2); have hfz := hs.m.frozen 2; simp only [mgC, List.getElem?_toArray, List.cons_append, List.getElem?_cons_zero, List.getElem?_cons_succ] at hcz; clear hs))
  generalize hu : v2.setCell _ _ = u3
  have UT : Untouched [gM] v2 u3 := by rw [← hu]; exact Untouched.set gM 2 (by simp) _
  have T3 := hidm_ (show RmS w g gb gM gi F ⟨k, f, a, 0, 0, 0, kr0, [], none, 0, [], none, 0, [], none, 0⟩ _ _ u3 from S2.out.put (by rw [← hu]; have k9 := S2.out.m.set_ 2 (.int .i64 a); rw [mgC_lo _ 2 _ (by decide)] at k9; exact k9) UT)
  clear UT hu hcz hfz hcb S2 T2
  have hc0 : u3.cell? ⟨gM, 0, none⟩ = some (.int .i64 k) := (T3.out.m.cell 0).trans rfl
  have hcb := T3.out.bx.cell 0
  by_cases k1 : k = 1
  case pos =>
    subst k1
    obtain ⟨KR, l4, e4, hrow⟩ : ∃ x b c, rowF l3 e3 = (x, b, c) := ⟨_, _, _, rfl⟩
    have cr := row_t u3 gi l3 e3 F T3.out.inf T3.out.lts HL3.out
    rw [hrow] at cr
    unfold ItP IN at cr
    simp only at cr
    have hib := hidm_ (show (Tryd.prog.info? 96).map (·.size) = some (#[Value.pointer (some ⟨gi, 0, none⟩)] : Array Value).size by kernel_rfl)
    go_upto_region 25 with (first
      | (refine wpList_load_row rfl 96 (.tmp 4) rfl gb rfl 96 #[.pointer (some ⟨gi, 0, none⟩)] (0, 0) _ T3.out.bx Tryd.underlying96 rfl hib.out ?_)
      | (go_at_call 38; ((with_reducible refine cr.mono ?_); clear cr; rintro e v3 ⟨_, rfl, ⟨A8, c8, rfl, hO8⟩, hI8, hU8⟩; have S3 := hidm_ (T3.out.read hI8 hU8); have O3 := hidm_ hO8; have LT8 := hidm_ (show gM < u3.heap.size from T3.out.m.lt); have hpad := pad32_len KR.key; have i33 := i33m ⟨⟨pad32 KR.key, KR.set⟩, A8, c8⟩ hpad; have KL := hidm_ hpad; clear hI8 hU8 hO8))
      | (refine wpList_store_midM rfl 41 (.tmp 29) (.tmp 28) rfl gM 6 rfl (krC ⟨⟨pad32 KR.key, KR.set⟩, A8, c8⟩).toArray rfl 45 (mgC ⟨1, f, a, 0, 0, 0, kr0, [], none, 0, [], none, 0, [], none, 0⟩).toArray S3.out.m i33 (by rw [List.size_toArray, List.size_toArray, krC_len _ KL.out, mgC_len ⟨1, f, a, 0, 0, 0, kr0, [], none, 0, [], none, 0, [], none, 0⟩ (zbytes_len 32)]; decide) (krC_ones _) ?_; intro u4 k9 g9 s9; rw [mgC_mid ⟨1, f, a, 0, 0, 0, kr0, [], none, 0, [], none, 0, [], none, 0⟩ (zbytes_len 32) _ KL.out] at k9; have UT := hidm_ (show Untouched [gM] v3 u4 from ⟨g9.os, g9.tape, g9.output, g9.size, fun b hb hne => g9.block b hb (fun e => by injection e with e; exact hne (by rw [e]; simp))⟩); have T4 := hidm_ (S3.out.put k9 UT.out); have O4 := hidm_ (O3.out.unt UT.out (fun k hk => by rw [List.mem_singleton.1 hk]; exact LT8.out)); clear k9 g9 s9))
    have HR := hidm_ hrow
    clear T3 S3 O3
    have hcb := T4.out.bx.cell 0
    have ce := end_anyc u4 gi l4 e4 F T4.out.inf
    have HDD := hidm_ (show rdMg l = (⟨1, f, a, 0, 0, 0, KR, [], [], []⟩, l4, e4) by rw [HD.out]; unfold rdBody; simp only [HR.out]; rfl)
    by_cases he : endS l4 e4 = 0
    case pos =>
      have hd : (endS l4 e4 != 0) = false := by rw [he]; rfl
      rw [he] at ce hd
      have HOKM := hidm_ (rdMg_ok HDD.out he)
      have HE := hidm_ he
      have hi42 := i42 ⟨1, f, a, 0, 0, 0, ⟨⟨pad32 KR.key, KR.set⟩, A8, c8⟩, [], none, 0, [], none, 0, [], none, 0⟩ (by first | exact zbytes_len 32 | exact KL.out)
      clear he
      go_wp2_with (first
        | (go_at_call 44; ((with_reducible refine ce.mono ?_); clear ce; rintro e x9 ⟨rfl, rfl⟩))
        | (refine wpList_load_row rfl 45 (.tmp 5) rfl gM rfl 45 (mgC ⟨1, f, a, 0, 0, 0, ⟨⟨pad32 KR.key, KR.set⟩, A8, c8⟩, [], none, 0, [], none, 0, [], none, 0⟩).toArray (0, 0) _ T4.out.m Tryd.underlying45 rfl hi42 ?_)
        | (refine wpList_put_row rfl 45 (.tmp 2) (.tmp 84) rfl g (mgC ⟨1, f, a, 0, 0, 0, ⟨⟨pad32 KR.key, KR.set⟩, A8, c8⟩, [], none, 0, [], none, 0, [], none, 0⟩).toArray rfl rfl 45 (mgC mgZ).toArray T4.out.r0 hi42 (by rw [List.size_toArray, List.size_toArray, mgC_len mgZ rfl, mgC_len ⟨1, f, a, 0, 0, 0, ⟨⟨pad32 KR.key, KR.set⟩, A8, c8⟩, [], none, 0, [], none, 0, [], none, 0⟩ (by first | exact zbytes_len 32 | exact KL.out)]) (mgC_one _) ?_; intro y9 k9 g9 s9; have Y9 := hidm_ k9; have UG := hidm_ (show Untouched [g] u4 y9 from ⟨g9.os, g9.tape, g9.output, g9.size, fun b hb hne => g9.block b hb (fun e => by injection e with e; exact hne (by rw [e]; simp))⟩); clear k9 g9 s9))
      exact bodyPost_ret (results_cell_slotM Tryd.results12 _ _ g rfl rfl (run_loadVar_row _ _ _ _ _ (0, 0) _ Y9.out Tryd.underlying45 rfl hi42)) rfl ⟨⟨1, f, a, 0, 0, 0, ⟨⟨pad32 KR.key, KR.set⟩, A8, c8⟩, [], none, 0, [], none, 0, [], none, 0⟩, 0, rfl, by rw [HG.out]; exact T4.out.bel.trans (UG.out.below (fun k hk => by rw [List.mem_singleton.1 hk]; exact Nat.le_refl _) (Nat.le_of_lt T4.out.r0.lt)), ⟨((O4.out.unt UG.out (fun k hk => by rw [List.mem_singleton.1 hk]; have := LT8.out; have := T4.out.gi_; have := T4.out.ord; omega)).okr (n := 0) KL.out), RdG.nil, ⟨Nat.zero_le _, Nat.zero_le _⟩, RdG.nil, ⟨Nat.zero_le _, Nat.zero_le _⟩, fun _ h => (by cases h), RdG.nil, ⟨Nat.zero_le _, Nat.zero_le _⟩, fun _ h => (by cases h)⟩, fun _ => ⟨rfl, by rw [HDD.out]; obtain ⟨_, _, hk32, _⟩ := HOKM.out; show (⟨1, f, a, 0, 0, 0, ⟨pad32 KR.key, KR.set⟩, [], [], []⟩ : MgV) = _; rw [pad32_id hk32.1]⟩, fun h => absurd (by rw [HDD.out]; exact HE.out) h⟩
    case neg =>
      obtain ⟨E9, hE9⟩ : ∃ E, endS l4 e4 = E := ⟨_, rfl⟩
      have HE := hidm_ he
      rw [hE9] at ce
      have hd : (E9 != 0) = true := by rw [← hE9]; simpa using he
      have hd2 : (E9 == 0) = false := by rw [← hE9]; simpa using he
      have hd3 : decide (E9 = 0) = false := by rw [← hE9]; exact decide_eq_false he
      have hb0 := built_m0
      have hi42 := i42 mgZ rfl
      clear he hE9
      go_wp2_with (first
        | (go_at_call 44; ((with_reducible refine ce.mono ?_); clear ce; rintro e x9 ⟨rfl, rfl⟩))
        | (refine wpList_built rfl 45 #[] rfl (mgC mgZ).toArray hb0 ?_)
        | (refine wpList_put_row rfl 45 (.tmp 2) (.tmp 83) rfl g (mgC mgZ).toArray rfl rfl 45 (mgC mgZ).toArray T4.out.r0 hi42 rfl (mgC_one _) ?_; intro y9 k9 g9 s9; have Y9 := hidm_ k9; have UG := hidm_ (show Untouched [g] u4 y9 from ⟨g9.os, g9.tape, g9.output, g9.size, fun b hb hne => g9.block b hb (fun e => by injection e with e; exact hne (by rw [e]; simp))⟩); clear k9 g9 s9))
      exact bodyPost_ret (results_cell_slotM Tryd.results12 _ _ g rfl rfl (run_loadVar_row _ _ _ _ _ (0, 0) _ Y9.out Tryd.underlying45 rfl hi42)) rfl ⟨mgZ, 2, rfl, by rw [HG.out]; exact T4.out.bel.trans (UG.out.below (fun k hk => by rw [List.mem_singleton.1 hk]; exact Nat.le_refl _) (Nat.le_of_lt T4.out.r0.lt)), mgZ_ok _ _, fun h => absurd (by rw [HDD.out] at h; exact h) HE.out, fun _ => ⟨rfl, rfl⟩⟩
  by_cases k4 : k = 4
  case pos =>
    subst k4
    obtain ⟨KR, l4, e4, hrow⟩ : ∃ x b c, rowF l3 e3 = (x, b, c) := ⟨_, _, _, rfl⟩
    have cr := row_t u3 gi l3 e3 F T3.out.inf T3.out.lts HL3.out
    rw [hrow] at cr
    unfold ItP IN at cr
    simp only at cr
    have hib := hidm_ (show (Tryd.prog.info? 96).map (·.size) = some (#[Value.pointer (some ⟨gi, 0, none⟩)] : Array Value).size by kernel_rfl)
    go_upto_region 25 with (first
      | (refine wpList_load_row rfl 96 (.tmp 4) rfl gb rfl 96 #[.pointer (some ⟨gi, 0, none⟩)] (0, 0) _ T3.out.bx Tryd.underlying96 rfl hib.out ?_)
      | (go_at_call 38; ((with_reducible refine cr.mono ?_); clear cr; rintro e v3 ⟨_, rfl, ⟨A8, c8, rfl, hO8⟩, hI8, hU8⟩; have S3 := hidm_ (T3.out.read hI8 hU8); have O3 := hidm_ hO8; have LT8 := hidm_ (show gM < u3.heap.size from T3.out.m.lt); have hpad := pad32_len KR.key; have i33 := i33m ⟨⟨pad32 KR.key, KR.set⟩, A8, c8⟩ hpad; have KL := hidm_ hpad; clear hI8 hU8 hO8))
      | (refine wpList_store_midM rfl 41 (.tmp 29) (.tmp 28) rfl gM 6 rfl (krC ⟨⟨pad32 KR.key, KR.set⟩, A8, c8⟩).toArray rfl 45 (mgC ⟨4, f, a, 0, 0, 0, kr0, [], none, 0, [], none, 0, [], none, 0⟩).toArray S3.out.m i33 (by rw [List.size_toArray, List.size_toArray, krC_len _ KL.out, mgC_len ⟨4, f, a, 0, 0, 0, kr0, [], none, 0, [], none, 0, [], none, 0⟩ (zbytes_len 32)]; decide) (krC_ones _) ?_; intro u4 k9 g9 s9; rw [mgC_mid ⟨4, f, a, 0, 0, 0, kr0, [], none, 0, [], none, 0, [], none, 0⟩ (zbytes_len 32) _ KL.out] at k9; have UT := hidm_ (show Untouched [gM] v3 u4 from ⟨g9.os, g9.tape, g9.output, g9.size, fun b hb hne => g9.block b hb (fun e => by injection e with e; exact hne (by rw [e]; simp))⟩); have T4 := hidm_ (S3.out.put k9 UT.out); have O4 := hidm_ (O3.out.unt UT.out (fun k hk => by rw [List.mem_singleton.1 hk]; exact LT8.out)); clear k9 g9 s9))
    have HR := hidm_ hrow
    clear T3 S3 O3
    have hcb := T4.out.bx.cell 0
    have ce := end_anyc u4 gi l4 e4 F T4.out.inf
    have HDD := hidm_ (show rdMg l = (⟨4, f, a, 0, 0, 0, KR, [], [], []⟩, l4, e4) by rw [HD.out]; unfold rdBody; simp only [HR.out]; rfl)
    by_cases he : endS l4 e4 = 0
    case pos =>
      have hd : (endS l4 e4 != 0) = false := by rw [he]; rfl
      rw [he] at ce hd
      have HOKM := hidm_ (rdMg_ok HDD.out he)
      have HE := hidm_ he
      have hi42 := i42 ⟨4, f, a, 0, 0, 0, ⟨⟨pad32 KR.key, KR.set⟩, A8, c8⟩, [], none, 0, [], none, 0, [], none, 0⟩ (by first | exact zbytes_len 32 | exact KL.out)
      clear he
      go_wp2_with (first
        | (go_at_call 44; ((with_reducible refine ce.mono ?_); clear ce; rintro e x9 ⟨rfl, rfl⟩))
        | (refine wpList_load_row rfl 45 (.tmp 5) rfl gM rfl 45 (mgC ⟨4, f, a, 0, 0, 0, ⟨⟨pad32 KR.key, KR.set⟩, A8, c8⟩, [], none, 0, [], none, 0, [], none, 0⟩).toArray (0, 0) _ T4.out.m Tryd.underlying45 rfl hi42 ?_)
        | (refine wpList_put_row rfl 45 (.tmp 2) (.tmp 84) rfl g (mgC ⟨4, f, a, 0, 0, 0, ⟨⟨pad32 KR.key, KR.set⟩, A8, c8⟩, [], none, 0, [], none, 0, [], none, 0⟩).toArray rfl rfl 45 (mgC mgZ).toArray T4.out.r0 hi42 (by rw [List.size_toArray, List.size_toArray, mgC_len mgZ rfl, mgC_len ⟨4, f, a, 0, 0, 0, ⟨⟨pad32 KR.key, KR.set⟩, A8, c8⟩, [], none, 0, [], none, 0, [], none, 0⟩ (by first | exact zbytes_len 32 | exact KL.out)]) (mgC_one _) ?_; intro y9 k9 g9 s9; have Y9 := hidm_ k9; have UG := hidm_ (show Untouched [g] u4 y9 from ⟨g9.os, g9.tape, g9.output, g9.size, fun b hb hne => g9.block b hb (fun e => by injection e with e; exact hne (by rw [e]; simp))⟩); clear k9 g9 s9))
      exact bodyPost_ret (results_cell_slotM Tryd.results12 _ _ g rfl rfl (run_loadVar_row _ _ _ _ _ (0, 0) _ Y9.out Tryd.underlying45 rfl hi42)) rfl ⟨⟨4, f, a, 0, 0, 0, ⟨⟨pad32 KR.key, KR.set⟩, A8, c8⟩, [], none, 0, [], none, 0, [], none, 0⟩, 0, rfl, by rw [HG.out]; exact T4.out.bel.trans (UG.out.below (fun k hk => by rw [List.mem_singleton.1 hk]; exact Nat.le_refl _) (Nat.le_of_lt T4.out.r0.lt)), ⟨((O4.out.unt UG.out (fun k hk => by rw [List.mem_singleton.1 hk]; have := LT8.out; have := T4.out.gi_; have := T4.out.ord; omega)).okr (n := 0) KL.out), RdG.nil, ⟨Nat.zero_le _, Nat.zero_le _⟩, RdG.nil, ⟨Nat.zero_le _, Nat.zero_le _⟩, fun _ h => (by cases h), RdG.nil, ⟨Nat.zero_le _, Nat.zero_le _⟩, fun _ h => (by cases h)⟩, fun _ => ⟨rfl, by rw [HDD.out]; obtain ⟨_, _, hk32, _⟩ := HOKM.out; show (⟨4, f, a, 0, 0, 0, ⟨pad32 KR.key, KR.set⟩, [], [], []⟩ : MgV) = _; rw [pad32_id hk32.1]⟩, fun h => absurd (by rw [HDD.out]; exact HE.out) h⟩
    case neg =>
      obtain ⟨E9, hE9⟩ : ∃ E, endS l4 e4 = E := ⟨_, rfl⟩
      have HE := hidm_ he
      rw [hE9] at ce
      have hd : (E9 != 0) = true := by rw [← hE9]; simpa using he
      have hd2 : (E9 == 0) = false := by rw [← hE9]; simpa using he
      have hd3 : decide (E9 = 0) = false := by rw [← hE9]; exact decide_eq_false he
      have hb0 := built_m0
      have hi42 := i42 mgZ rfl
      clear he hE9
      go_wp2_with (first
        | (go_at_call 44; ((with_reducible refine ce.mono ?_); clear ce; rintro e x9 ⟨rfl, rfl⟩))
        | (refine wpList_built rfl 45 #[] rfl (mgC mgZ).toArray hb0 ?_)
        | (refine wpList_put_row rfl 45 (.tmp 2) (.tmp 83) rfl g (mgC mgZ).toArray rfl rfl 45 (mgC mgZ).toArray T4.out.r0 hi42 rfl (mgC_one _) ?_; intro y9 k9 g9 s9; have Y9 := hidm_ k9; have UG := hidm_ (show Untouched [g] u4 y9 from ⟨g9.os, g9.tape, g9.output, g9.size, fun b hb hne => g9.block b hb (fun e => by injection e with e; exact hne (by rw [e]; simp))⟩); clear k9 g9 s9))
      exact bodyPost_ret (results_cell_slotM Tryd.results12 _ _ g rfl rfl (run_loadVar_row _ _ _ _ _ (0, 0) _ Y9.out Tryd.underlying45 rfl hi42)) rfl ⟨mgZ, 2, rfl, by rw [HG.out]; exact T4.out.bel.trans (UG.out.below (fun k hk => by rw [List.mem_singleton.1 hk]; exact Nat.le_refl _) (Nat.le_of_lt T4.out.r0.lt)), mgZ_ok _ _, fun h => absurd (by rw [HDD.out] at h; exact h) HE.out, fun _ => ⟨rfl, rfl⟩⟩
  by_cases k2 : k = 2
  case pos =>
    subst k2
    obtain ⟨v, l4, e4, h4⟩ : ∃ a b c, numS 1 255 l3 e3 = (a, b, c) := ⟨_, _, _, rfl⟩
    have H4 := hidm_ h4
    clear h4
    have cc := T3.out.small 255 (by omega) (by omega) H4.out
    have hcb := T3.out.bx.cell 0
    go_upto_region 25 with (go_at_call 36; ((with_reducible refine cc.mono ?_); clear cc; rintro e v3 ⟨rfl, hs⟩; have S3 := hidm_ hs; have hcz := (hs.m.cell 3); have hfz := hs.m.frozen 3; simp only [mgC, List.getElem?_toArray, List.cons_append, List.getElem?_cons_zero, List.getElem?_cons_succ] at hcz; clear hs))
    generalize hu : v3.setCell _ _ = u4
    have UT : Untouched [gM] v3 u4 := by rw [← hu]; exact Untouched.set gM 3 (by simp) _
    have T4 := hidm_ (show RmS w g gb gM gi F ⟨2, f, a, v, 0, 0, kr0, [], none, 0, [], none, 0, [], none, 0⟩ _ _ u4 from S3.out.put (by rw [← hu]; have k9 := S3.out.m.set_ 3 (.int .i64 v); rw [mgC_lo _ 3 _ (by decide)] at k9; exact k9) UT)
    clear UT hu hcz hfz hcb S3 T3
    have hcb := T4.out.bx.cell 0
    have ce := end_anyc u4 gi l4 e4 F T4.out.inf
    have HDD := hidm_ (show rdMg l = (⟨2, f, a, v, 0, 0, ⟨zbytes 32, []⟩, [], [], []⟩, l4, e4) by rw [HD.out]; unfold rdBody; simp [mg0, H4.out])
    by_cases he : endS l4 e4 = 0
    case pos =>
      have hd : (endS l4 e4 != 0) = false := by rw [he]; rfl
      rw [he] at ce hd
      have HOKM := hidm_ (rdMg_ok HDD.out he)
      have HE := hidm_ he
      have hi42 := i42 ⟨2, f, a, v, 0, 0, kr0, [], none, 0, [], none, 0, [], none, 0⟩ (by first | exact zbytes_len 32 | exact KL.out)
      clear he
      go_wp2_with (first
        | (go_at_call 44; ((with_reducible refine ce.mono ?_); clear ce; rintro e x9 ⟨rfl, rfl⟩))
        | (refine wpList_load_row rfl 45 (.tmp 5) rfl gM rfl 45 (mgC ⟨2, f, a, v, 0, 0, kr0, [], none, 0, [], none, 0, [], none, 0⟩).toArray (0, 0) _ T4.out.m Tryd.underlying45 rfl hi42 ?_)
        | (refine wpList_put_row rfl 45 (.tmp 2) (.tmp 84) rfl g (mgC ⟨2, f, a, v, 0, 0, kr0, [], none, 0, [], none, 0, [], none, 0⟩).toArray rfl rfl 45 (mgC mgZ).toArray T4.out.r0 hi42 (by rw [List.size_toArray, List.size_toArray, mgC_len mgZ rfl, mgC_len ⟨2, f, a, v, 0, 0, kr0, [], none, 0, [], none, 0, [], none, 0⟩ (by first | exact zbytes_len 32 | exact KL.out)]) (mgC_one _) ?_; intro y9 k9 g9 s9; have Y9 := hidm_ k9; have UG := hidm_ (show Untouched [g] u4 y9 from ⟨g9.os, g9.tape, g9.output, g9.size, fun b hb hne => g9.block b hb (fun e => by injection e with e; exact hne (by rw [e]; simp))⟩); clear k9 g9 s9))
      exact bodyPost_ret (results_cell_slotM Tryd.results12 _ _ g rfl rfl (run_loadVar_row _ _ _ _ _ (0, 0) _ Y9.out Tryd.underlying45 rfl hi42)) rfl ⟨⟨2, f, a, v, 0, 0, kr0, [], none, 0, [], none, 0, [], none, 0⟩, 0, rfl, by rw [HG.out]; exact T4.out.bel.trans (UG.out.below (fun k hk => by rw [List.mem_singleton.1 hk]; exact Nat.le_refl _) (Nat.le_of_lt T4.out.r0.lt)), ⟨kr0_ok _ _, RdG.nil, ⟨Nat.zero_le _, Nat.zero_le _⟩, RdG.nil, ⟨Nat.zero_le _, Nat.zero_le _⟩, fun _ h => (by cases h), RdG.nil, ⟨Nat.zero_le _, Nat.zero_le _⟩, fun _ h => (by cases h)⟩, fun _ => ⟨rfl, by rw [HDD.out]; rfl⟩, fun h => absurd (by rw [HDD.out]; exact HE.out) h⟩
    case neg =>
      obtain ⟨E9, hE9⟩ : ∃ E, endS l4 e4 = E := ⟨_, rfl⟩
      have HE := hidm_ he
      rw [hE9] at ce
      have hd : (E9 != 0) = true := by rw [← hE9]; simpa using he
      have hd2 : (E9 == 0) = false := by rw [← hE9]; simpa using he
      have hd3 : decide (E9 = 0) = false := by rw [← hE9]; exact decide_eq_false he
      have hb0 := built_m0
      have hi42 := i42 mgZ rfl
      clear he hE9
      go_wp2_with (first
        | (go_at_call 44; ((with_reducible refine ce.mono ?_); clear ce; rintro e x9 ⟨rfl, rfl⟩))
        | (refine wpList_built rfl 45 #[] rfl (mgC mgZ).toArray hb0 ?_)
        | (refine wpList_put_row rfl 45 (.tmp 2) (.tmp 83) rfl g (mgC mgZ).toArray rfl rfl 45 (mgC mgZ).toArray T4.out.r0 hi42 rfl (mgC_one _) ?_; intro y9 k9 g9 s9; have Y9 := hidm_ k9; have UG := hidm_ (show Untouched [g] u4 y9 from ⟨g9.os, g9.tape, g9.output, g9.size, fun b hb hne => g9.block b hb (fun e => by injection e with e; exact hne (by rw [e]; simp))⟩); clear k9 g9 s9))
      exact bodyPost_ret (results_cell_slotM Tryd.results12 _ _ g rfl rfl (run_loadVar_row _ _ _ _ _ (0, 0) _ Y9.out Tryd.underlying45 rfl hi42)) rfl ⟨mgZ, 2, rfl, by rw [HG.out]; exact T4.out.bel.trans (UG.out.below (fun k hk => by rw [List.mem_singleton.1 hk]; exact Nat.le_refl _) (Nat.le_of_lt T4.out.r0.lt)), mgZ_ok _ _, fun h => absurd (by rw [HDD.out] at h; exact h) HE.out, fun _ => ⟨rfl, rfl⟩⟩
  by_cases k3 : k = 3
  case pos =>
    subst k3
    obtain ⟨KK, l4, e4, h4⟩ : ∃ a b c, fixS 32 l3 e3 = (a, b, c) := ⟨_, _, _, rfl⟩
    have H4 := hidm_ h4
    have cr := fixed_t u3 gi l3 e3 F T3.out.inf T3.out.lts HL3.out
    unfold digF ItP IN at cr
    rw [h4] at cr
    simp only at cr
    clear h4
    have hib := hidm_ (show (Tryd.prog.info? 96).map (·.size) = some (#[Value.pointer (some ⟨gi, 0, none⟩)] : Array Value).size by kernel_rfl)
    have KL := hidm_ (pad32_len KK)
    have i32 := hidm_ (show (Tryd.prog.info? 23).map (·.size) = some (rowOf (pad32 KK)).size by rw [rowOf_size, KL.out]; kernel_rfl)
    go_upto_region 25 with (first
      | (refine wpList_load_row rfl 96 (.tmp 4) rfl gb rfl 96 #[.pointer (some ⟨gi, 0, none⟩)] (0, 0) _ T3.out.bx Tryd.underlying96 rfl hib.out ?_)
      | (go_at_call 39; ((with_reducible refine cr.mono ?_); clear cr; rintro e v3 ⟨_, rfl, rfl, hI8, hU8⟩; have S3 := hidm_ (T3.out.read hI8 hU8); clear hI8 hU8))
      | (refine wpList_store_midM rfl 23 (.tmp 41) (.tmp 39) rfl gM 6 rfl (rowOf (pad32 KK)) rfl 45 (mgC ⟨3, f, a, 0, 0, 0, kr0, [], none, 0, [], none, 0, [], none, 0⟩).toArray S3.out.m i32.out (by rw [rowOf_size, KL.out, List.size_toArray, mgC_len ⟨3, f, a, 0, 0, 0, kr0, [], none, 0, [], none, 0, [], none, 0⟩ (zbytes_len 32)]; decide) (one_of_row _) ?_; intro u4 k9 g9 s9; rw [mgC_key ⟨3, f, a, 0, 0, 0, kr0, [], none, 0, [], none, 0, [], none, 0⟩ (zbytes_len 32) _ KL.out] at k9; have UT := hidm_ (show Untouched [gM] v3 u4 from ⟨g9.os, g9.tape, g9.output, g9.size, fun b hb hne => g9.block b hb (fun e => by injection e with e; exact hne (by rw [e]; simp))⟩); have T4 := hidm_ (S3.out.put k9 UT.out); clear k9 g9 s9))
    clear T3 S3
    have hcb := T4.out.bx.cell 0
    have ce := end_anyc u4 gi l4 e4 F T4.out.inf
    have HDD := hidm_ (show rdMg l = (⟨3, f, a, 0, 0, 0, ⟨KK, []⟩, [], [], []⟩, l4, e4) by rw [HD.out]; unfold rdBody; simp [mg0, H4.out])
    by_cases he : endS l4 e4 = 0
    case pos =>
      have hd : (endS l4 e4 != 0) = false := by rw [he]; rfl
      rw [he] at ce hd
      have HOKM := hidm_ (rdMg_ok HDD.out he)
      have HE := hidm_ he
      have hi42 := i42 ⟨3, f, a, 0, 0, 0, ⟨⟨pad32 KK, []⟩, none, 0⟩, [], none, 0, [], none, 0, [], none, 0⟩ (by first | exact zbytes_len 32 | exact KL.out)
      clear he
      go_wp2_with (first
        | (go_at_call 44; ((with_reducible refine ce.mono ?_); clear ce; rintro e x9 ⟨rfl, rfl⟩))
        | (refine wpList_load_row rfl 45 (.tmp 5) rfl gM rfl 45 (mgC ⟨3, f, a, 0, 0, 0, ⟨⟨pad32 KK, []⟩, none, 0⟩, [], none, 0, [], none, 0, [], none, 0⟩).toArray (0, 0) _ T4.out.m Tryd.underlying45 rfl hi42 ?_)
        | (refine wpList_put_row rfl 45 (.tmp 2) (.tmp 84) rfl g (mgC ⟨3, f, a, 0, 0, 0, ⟨⟨pad32 KK, []⟩, none, 0⟩, [], none, 0, [], none, 0, [], none, 0⟩).toArray rfl rfl 45 (mgC mgZ).toArray T4.out.r0 hi42 (by rw [List.size_toArray, List.size_toArray, mgC_len mgZ rfl, mgC_len ⟨3, f, a, 0, 0, 0, ⟨⟨pad32 KK, []⟩, none, 0⟩, [], none, 0, [], none, 0, [], none, 0⟩ (by first | exact zbytes_len 32 | exact KL.out)]) (mgC_one _) ?_; intro y9 k9 g9 s9; have Y9 := hidm_ k9; have UG := hidm_ (show Untouched [g] u4 y9 from ⟨g9.os, g9.tape, g9.output, g9.size, fun b hb hne => g9.block b hb (fun e => by injection e with e; exact hne (by rw [e]; simp))⟩); clear k9 g9 s9))
      exact bodyPost_ret (results_cell_slotM Tryd.results12 _ _ g rfl rfl (run_loadVar_row _ _ _ _ _ (0, 0) _ Y9.out Tryd.underlying45 rfl hi42)) rfl ⟨⟨3, f, a, 0, 0, 0, ⟨⟨pad32 KK, []⟩, none, 0⟩, [], none, 0, [], none, 0, [], none, 0⟩, 0, rfl, by rw [HG.out]; exact T4.out.bel.trans (UG.out.below (fun k hk => by rw [List.mem_singleton.1 hk]; exact Nat.le_refl _) (Nat.le_of_lt T4.out.r0.lt)), ⟨⟨KL.out, Rd.nil, Nat.zero_le _, Nat.zero_le _⟩, RdG.nil, ⟨Nat.zero_le _, Nat.zero_le _⟩, RdG.nil, ⟨Nat.zero_le _, Nat.zero_le _⟩, fun _ h => (by cases h), RdG.nil, ⟨Nat.zero_le _, Nat.zero_le _⟩, fun _ h => (by cases h)⟩, fun _ => ⟨rfl, by rw [HDD.out]; obtain ⟨_, _, hk32, _⟩ := HOKM.out; show (⟨3, f, a, 0, 0, 0, ⟨pad32 KK, []⟩, [], [], []⟩ : MgV) = _; rw [pad32_id hk32.1]⟩, fun h => absurd (by rw [HDD.out]; exact HE.out) h⟩
    case neg =>
      obtain ⟨E9, hE9⟩ : ∃ E, endS l4 e4 = E := ⟨_, rfl⟩
      have HE := hidm_ he
      rw [hE9] at ce
      have hd : (E9 != 0) = true := by rw [← hE9]; simpa using he
      have hd2 : (E9 == 0) = false := by rw [← hE9]; simpa using he
      have hd3 : decide (E9 = 0) = false := by rw [← hE9]; exact decide_eq_false he
      have hb0 := built_m0
      have hi42 := i42 mgZ rfl
      clear he hE9
      go_wp2_with (first
        | (go_at_call 44; ((with_reducible refine ce.mono ?_); clear ce; rintro e x9 ⟨rfl, rfl⟩))
        | (refine wpList_built rfl 45 #[] rfl (mgC mgZ).toArray hb0 ?_)
        | (refine wpList_put_row rfl 45 (.tmp 2) (.tmp 83) rfl g (mgC mgZ).toArray rfl rfl 45 (mgC mgZ).toArray T4.out.r0 hi42 rfl (mgC_one _) ?_; intro y9 k9 g9 s9; have Y9 := hidm_ k9; have UG := hidm_ (show Untouched [g] u4 y9 from ⟨g9.os, g9.tape, g9.output, g9.size, fun b hb hne => g9.block b hb (fun e => by injection e with e; exact hne (by rw [e]; simp))⟩); clear k9 g9 s9))
      exact bodyPost_ret (results_cell_slotM Tryd.results12 _ _ g rfl rfl (run_loadVar_row _ _ _ _ _ (0, 0) _ Y9.out Tryd.underlying45 rfl hi42)) rfl ⟨mgZ, 2, rfl, by rw [HG.out]; exact T4.out.bel.trans (UG.out.below (fun k hk => by rw [List.mem_singleton.1 hk]; exact Nat.le_refl _) (Nat.le_of_lt T4.out.r0.lt)), mgZ_ok _ _, fun h => absurd (by rw [HDD.out] at h; exact h) HE.out, fun _ => ⟨rfl, rfl⟩⟩
  by_cases k5 : k = 5
  case pos =>
    subst k5
    obtain ⟨v, l4, e4, h4⟩ : ∃ a b c, numS 1 7 l3 e3 = (a, b, c) := ⟨_, _, _, rfl⟩
    have H4 := hidm_ h4
    have HL4 := hidm_ (show l4.length ≤ 140737488355328 by have := numS_le 1 7 l3 e3; rw [h4] at this; exact Nat.le_trans this HL3.out)
    clear h4
    have cc := T3.out.small 7 (by omega) (by omega) H4.out
    have hcb := T3.out.bx.cell 0
    go_upto_region 17 with (go_at_call 36; ((with_reducible refine cc.mono ?_); clear cc; rintro e v3 ⟨rfl, hs⟩; have S3 := hidm_ hs; have hcz := (hs.m.cell 4); have hfz := hs.m.frozen 4; simp only [mgC, List.getElem?_toArray, List.cons_append, List.getElem?_cons_zero, List.getElem?_cons_succ] at hcz; clear hs))
    generalize hu : v3.setCell _ _ = u4
    have UT : Untouched [gM] v3 u4 := by rw [← hu]; exact Untouched.set gM 4 (by simp) _
    have T4 := hidm_ (show RmS w g gb gM gi F ⟨5, f, a, 0, v, 0, kr0, [], none, 0, [], none, 0, [], none, 0⟩ _ _ u4 from S3.out.put (by rw [← hu]; have k9 := S3.out.m.set_ 4 (.int .i64 v); rw [mgC_lo _ 4 _ (by decide)] at k9; exact k9) UT)
    clear UT hu hcz hfz hcb S3 T3
    have hcb := T4.out.bx.cell 0
    obtain ⟨KR, l5, e5, hrow⟩ : ∃ x b c, rowF l4 e4 = (x, b, c) := ⟨_, _, _, rfl⟩
    have cr := row_t u4 gi l4 e4 F T4.out.inf T4.out.lts HL4.out
    rw [hrow] at cr
    unfold ItP IN at cr
    simp only at cr
    have hib := hidm_ (show (Tryd.prog.info? 96).map (·.size) = some (#[Value.pointer (some ⟨gi, 0, none⟩)] : Array Value).size by kernel_rfl)
    go_upto_region 25 with (first
      | (refine wpList_load_row rfl 96 (.tmp 4) rfl gb rfl 96 #[.pointer (some ⟨gi, 0, none⟩)] (0, 0) _ T4.out.bx Tryd.underlying96 rfl hib.out ?_)
      | (go_at_call 38; ((with_reducible refine cr.mono ?_); clear cr; rintro e v4 ⟨_, rfl, ⟨A8, c8, rfl, hO8⟩, hI8, hU8⟩; have S4 := hidm_ (T4.out.read hI8 hU8); have O4 := hidm_ hO8; have LT8 := hidm_ (show gM < u4.heap.size from T4.out.m.lt); have hpad := pad32_len KR.key; have i33 := i33m ⟨⟨pad32 KR.key, KR.set⟩, A8, c8⟩ hpad; have KL := hidm_ hpad; clear hI8 hU8 hO8))
      | (refine wpList_store_midM rfl 41 (.tmp 50) (.tmp 49) rfl gM 6 rfl (krC ⟨⟨pad32 KR.key, KR.set⟩, A8, c8⟩).toArray rfl 45 (mgC ⟨5, f, a, 0, v, 0, kr0, [], none, 0, [], none, 0, [], none, 0⟩).toArray S4.out.m i33 (by rw [List.size_toArray, List.size_toArray, krC_len _ KL.out, mgC_len ⟨5, f, a, 0, v, 0, kr0, [], none, 0, [], none, 0, [], none, 0⟩ (zbytes_len 32)]; decide) (krC_ones _) ?_; intro u5 k9 g9 s9; rw [mgC_mid ⟨5, f, a, 0, v, 0, kr0, [], none, 0, [], none, 0, [], none, 0⟩ (zbytes_len 32) _ KL.out] at k9; have UT := hidm_ (show Untouched [gM] v4 u5 from ⟨g9.os, g9.tape, g9.output, g9.size, fun b hb hne => g9.block b hb (fun e => by injection e with e; exact hne (by rw [e]; simp))⟩); have T5 := hidm_ (S4.out.put k9 UT.out); have O5 := hidm_ (O4.out.unt UT.out (fun k hk => by rw [List.mem_singleton.1 hk]; exact LT8.out)); clear k9 g9 s9))
    have HR := hidm_ hrow
    clear T4 S4 O4
    have hcb := T5.out.bx.cell 0
    have ce := end_anyc u5 gi l5 e5 F T5.out.inf
    have HDD := hidm_ (show rdMg l = (⟨5, f, a, 0, v, 0, KR, [], [], []⟩, l5, e5) by rw [HD.out]; unfold rdBody; simp [mg0, H4.out, HR.out])
    by_cases he : endS l5 e5 = 0
    case pos =>
      have hd : (endS l5 e5 != 0) = false := by rw [he]; rfl
      rw [he] at ce hd
      have HOKM := hidm_ (rdMg_ok HDD.out he)
      have HE := hidm_ he
      have hi42 := i42 ⟨5, f, a, 0, v, 0, ⟨⟨pad32 KR.key, KR.set⟩, A8, c8⟩, [], none, 0, [], none, 0, [], none, 0⟩ (by first | exact zbytes_len 32 | exact KL.out)
      clear he
      go_wp2_with (first
        | (go_at_call 44; ((with_reducible refine ce.mono ?_); clear ce; rintro e x9 ⟨rfl, rfl⟩))
        | (refine wpList_load_row rfl 45 (.tmp 5) rfl gM rfl 45 (mgC ⟨5, f, a, 0, v, 0, ⟨⟨pad32 KR.key, KR.set⟩, A8, c8⟩, [], none, 0, [], none, 0, [], none, 0⟩).toArray (0, 0) _ T5.out.m Tryd.underlying45 rfl hi42 ?_)
        | (refine wpList_put_row rfl 45 (.tmp 2) (.tmp 84) rfl g (mgC ⟨5, f, a, 0, v, 0, ⟨⟨pad32 KR.key, KR.set⟩, A8, c8⟩, [], none, 0, [], none, 0, [], none, 0⟩).toArray rfl rfl 45 (mgC mgZ).toArray T5.out.r0 hi42 (by rw [List.size_toArray, List.size_toArray, mgC_len mgZ rfl, mgC_len ⟨5, f, a, 0, v, 0, ⟨⟨pad32 KR.key, KR.set⟩, A8, c8⟩, [], none, 0, [], none, 0, [], none, 0⟩ (by first | exact zbytes_len 32 | exact KL.out)]) (mgC_one _) ?_; intro y9 k9 g9 s9; have Y9 := hidm_ k9; have UG := hidm_ (show Untouched [g] u5 y9 from ⟨g9.os, g9.tape, g9.output, g9.size, fun b hb hne => g9.block b hb (fun e => by injection e with e; exact hne (by rw [e]; simp))⟩); clear k9 g9 s9))
      exact bodyPost_ret (results_cell_slotM Tryd.results12 _ _ g rfl rfl (run_loadVar_row _ _ _ _ _ (0, 0) _ Y9.out Tryd.underlying45 rfl hi42)) rfl ⟨⟨5, f, a, 0, v, 0, ⟨⟨pad32 KR.key, KR.set⟩, A8, c8⟩, [], none, 0, [], none, 0, [], none, 0⟩, 0, rfl, by rw [HG.out]; exact T5.out.bel.trans (UG.out.below (fun k hk => by rw [List.mem_singleton.1 hk]; exact Nat.le_refl _) (Nat.le_of_lt T5.out.r0.lt)), ⟨((O5.out.unt UG.out (fun k hk => by rw [List.mem_singleton.1 hk]; have := LT8.out; have := T5.out.gi_; have := T5.out.ord; omega)).okr (n := 0) KL.out), RdG.nil, ⟨Nat.zero_le _, Nat.zero_le _⟩, RdG.nil, ⟨Nat.zero_le _, Nat.zero_le _⟩, fun _ h => (by cases h), RdG.nil, ⟨Nat.zero_le _, Nat.zero_le _⟩, fun _ h => (by cases h)⟩, fun _ => ⟨rfl, by rw [HDD.out]; obtain ⟨_, _, hk32, _⟩ := HOKM.out; show (⟨5, f, a, 0, v, 0, ⟨pad32 KR.key, KR.set⟩, [], [], []⟩ : MgV) = _; rw [pad32_id hk32.1]⟩, fun h => absurd (by rw [HDD.out]; exact HE.out) h⟩
    case neg =>
      obtain ⟨E9, hE9⟩ : ∃ E, endS l5 e5 = E := ⟨_, rfl⟩
      have HE := hidm_ he
      rw [hE9] at ce
      have hd : (E9 != 0) = true := by rw [← hE9]; simpa using he
      have hd2 : (E9 == 0) = false := by rw [← hE9]; simpa using he
      have hd3 : decide (E9 = 0) = false := by rw [← hE9]; exact decide_eq_false he
      have hb0 := built_m0
      have hi42 := i42 mgZ rfl
      clear he hE9
      go_wp2_with (first
        | (go_at_call 44; ((with_reducible refine ce.mono ?_); clear ce; rintro e x9 ⟨rfl, rfl⟩))
        | (refine wpList_built rfl 45 #[] rfl (mgC mgZ).toArray hb0 ?_)
        | (refine wpList_put_row rfl 45 (.tmp 2) (.tmp 83) rfl g (mgC mgZ).toArray rfl rfl 45 (mgC mgZ).toArray T5.out.r0 hi42 rfl (mgC_one _) ?_; intro y9 k9 g9 s9; have Y9 := hidm_ k9; have UG := hidm_ (show Untouched [g] u5 y9 from ⟨g9.os, g9.tape, g9.output, g9.size, fun b hb hne => g9.block b hb (fun e => by injection e with e; exact hne (by rw [e]; simp))⟩); clear k9 g9 s9))
      exact bodyPost_ret (results_cell_slotM Tryd.results12 _ _ g rfl rfl (run_loadVar_row _ _ _ _ _ (0, 0) _ Y9.out Tryd.underlying45 rfl hi42)) rfl ⟨mgZ, 2, rfl, by rw [HG.out]; exact T5.out.bel.trans (UG.out.below (fun k hk => by rw [List.mem_singleton.1 hk]; exact Nat.le_refl _) (Nat.le_of_lt T5.out.r0.lt)), mgZ_ok _ _, fun h => absurd (by rw [HDD.out] at h; exact h) HE.out, fun _ => ⟨rfl, rfl⟩⟩
  by_cases k6 : k = 6
  case pos =>
    subst k6
    obtain ⟨v, l4, e4, h4⟩ : ∃ a b c, numS 1 4 l3 e3 = (a, b, c) := ⟨_, _, _, rfl⟩
    have H4 := hidm_ h4
    have HL4 := hidm_ (show l4.length ≤ 140737488355328 by have := numS_le 1 4 l3 e3; rw [h4] at this; exact Nat.le_trans this HL3.out)
    clear h4
    have cc := T3.out.small 4 (by omega) (by omega) H4.out
    have hcb := T3.out.bx.cell 0
    go_upto_region 20 with (go_at_call 36; ((with_reducible refine cc.mono ?_); clear cc; rintro e v3 ⟨rfl, hs⟩; have S3 := hidm_ hs; have hcz := (hs.m.cell 5); have hfz := hs.m.frozen 5; simp only [mgC, List.getElem?_toArray, List.cons_append, List.getElem?_cons_zero, List.getElem?_cons_succ] at hcz; clear hs))
    generalize hu : v3.setCell _ _ = u4
    have UT : Untouched [gM] v3 u4 := by rw [← hu]; exact Untouched.set gM 5 (by simp) _
    have T4 := hidm_ (show RmS w g gb gM gi F ⟨6, f, a, 0, 0, v, kr0, [], none, 0, [], none, 0, [], none, 0⟩ _ _ u4 from S3.out.put (by rw [← hu]; have k9 := S3.out.m.set_ 5 (.int .i64 v); rw [mgC_lo _ 5 _ (by decide)] at k9; exact k9) UT)
    clear UT hu hcz hfz hcb S3 T3
    have hcb := T4.out.bx.cell 0
    obtain ⟨Xa, l5, e5, h5⟩ : ∃ x b c, cntF atF l4 e4 = (x, b, c) := ⟨_, _, _, rfl⟩
    have HXa := hidm_ h5
    have HL5 := hidm_ (show l5.length ≤ 140737488355328 by have := cntF_le (f := atF) atF_le l4 e4; rw [h5] at this; exact Nat.le_trans this HL4.out)
    have cl := takes_at u4 gi l4 e4 F T4.out.inf T4.out.lts
    rw [h5] at cl
    unfold IN at cl
    simp only at cl
    clear h5
    have hib := hidm_ (show (Tryd.prog.info? 96).map (·.size) = some (#[Value.pointer (some ⟨gi, 0, none⟩)] : Array Value).size by kernel_rfl)
    go_upto_region 21 with (first
      | (refine wpList_load_row rfl 96 (.tmp 4) rfl gb rfl 96 #[.pointer (some ⟨gi, 0, none⟩)] (0, 0) _ T4.out.bx Tryd.underlying96 rfl hib.out ?_)
      | (go_at_call 40; ((with_reducible refine cl.mono ?_); clear cl; rintro e v4 ⟨Aa, na, ca, rfl, hO8, hI8, hU8⟩; have S4 := hidm_ (T4.out.read hI8 hU8); have Oa1 := hidm_ hO8; have LTa := hidm_ (show gM < u4.heap.size from T4.out.m.lt); have hcz := (S4.out.m.cell (39 + 0)).trans (mgC_hi ⟨6, f, a, 0, 0, v, kr0, [], none, 0, [], none, 0, [], none, 0⟩ (zbytes_len 32) 0); have hfz := S4.out.m.frozen (39 + 0); simp only [Nat.reduceAdd, List.getElem?_cons_zero, List.getElem?_cons_succ] at hcz hfz; clear hI8 hU8 hO8)))
    generalize hu : v4.setCell _ _ = u5
    have UT : Untouched [gM] v4 u5 := by rw [← hu]; exact Untouched.set gM 39 (by simp) _
    obtain rfl : na = Xa.length := Oa1.out.rd.2
    have T5 := hidm_ (show RmS w g gb gM gi F ⟨6, f, a, 0, 0, v, kr0, Xa, Aa, ca, [], none, 0, [], none, 0⟩ _ _ u5 from S4.out.put (by rw [← hu]; have k9 := S4.out.m.set_ (39 + 0) (.slice Aa Xa.length ca); rw [mgC_up _ (zbytes_len 32) 0] at k9; exact k9) UT)
    have Oa2 := hidm_ (Oa1.out.keep UT (fun k hk hm => by have h9 := List.mem_singleton.1 hm; have := (Oa1.out.lt k hk).1; have := LTa.out; omega))
    clear UT hu hcz hfz S4 Oa1 T4
    have hcb := T5.out.bx.cell 0
    obtain ⟨Xd, l6, e6, h6⟩ : ∃ x b c, cntF digF l5 e5 = (x, b, c) := ⟨_, _, _, rfl⟩
    have HXd := hidm_ h6
    have HL6 := hidm_ (show l6.length ≤ 140737488355328 by have := cntF_le (f := digF) digF_le l5 e5; rw [h6] at this; exact Nat.le_trans this HL5.out)
    have cl := takes_dig u5 gi l5 e5 F T5.out.inf T5.out.lts HL5.out
    rw [h6] at cl
    unfold IN at cl
    simp only at cl
    clear h6
    have hib := hidm_ (show (Tryd.prog.info? 96).map (·.size) = some (#[Value.pointer (some ⟨gi, 0, none⟩)] : Array Value).size by kernel_rfl)
    go_upto_region 25 with (first
      | (refine wpList_load_row rfl 96 (.tmp 4) rfl gb rfl 96 #[.pointer (some ⟨gi, 0, none⟩)] (0, 0) _ T5.out.bx Tryd.underlying96 rfl hib.out ?_)
      | (go_at_call 42; ((with_reducible refine cl.mono ?_); clear cl; rintro e v5 ⟨Ad, nd, cd, rfl, hO8, hI8, hU8⟩; have S5 := hidm_ (T5.out.read hI8 hU8); have Pa := hidm_ (Oa2.out.keep hU8 (fun k hk hm => by have h9 := List.mem_singleton.1 hm; have := (Oa2.out.lt k hk).1; have := LTa.out; have := T5.out.gi_; have := T5.out.ord; omega)); have Od1 := hidm_ hO8; have LTd := hidm_ (show gM < u5.heap.size from T5.out.m.lt); have hcz := (S5.out.m.cell (39 + 1)).trans (mgC_hi ⟨6, f, a, 0, 0, v, kr0, Xa, Aa, ca, [], none, 0, [], none, 0⟩ (zbytes_len 32) 1); have hfz := S5.out.m.frozen (39 + 1); simp only [Nat.reduceAdd, List.getElem?_cons_zero, List.getElem?_cons_succ] at hcz hfz; clear hI8 hU8 hO8)))
    generalize hu : v5.setCell _ _ = u6
    have UT : Untouched [gM] v5 u6 := by rw [← hu]; exact Untouched.set gM 40 (by simp) _
    obtain rfl : nd = Xd.length := Od1.out.rd.2
    have T6 := hidm_ (show RmS w g gb gM gi F ⟨6, f, a, 0, 0, v, kr0, Xa, Aa, ca, Xd, Ad, cd, [], none, 0⟩ _ _ u6 from S5.out.put (by rw [← hu]; have k9 := S5.out.m.set_ (39 + 1) (.slice Ad Xd.length cd); rw [mgC_up _ (zbytes_len 32) 1] at k9; exact k9) UT)
    have Od2 := hidm_ (Od1.out.keep UT (fun k hk hm => by have h9 := List.mem_singleton.1 hm; have := (Od1.out.lt k hk).1; have := LTd.out; omega))
    have Oa3 := hidm_ (Pa.out.keep UT (fun k hk hm => by have h9 := List.mem_singleton.1 hm; have := (Pa.out.lt k hk).1; have := LTa.out; omega))
    clear Pa Oa2
    clear UT hu hcz hfz S5 Od1 T5
    have hcb := T6.out.bx.cell 0
    have ce := end_anyc u6 gi l6 e6 F T6.out.inf
    have HDD := hidm_ (show rdMg l = (⟨6, f, a, 0, 0, v, ⟨zbytes 32, []⟩, Xa, Xd, []⟩, l6, e6) by rw [HD.out]; unfold rdBody; simp [mg0, H4.out, HXa.out, HXd.out])
    by_cases he : endS l6 e6 = 0
    case pos =>
      have hd : (endS l6 e6 != 0) = false := by rw [he]; rfl
      rw [he] at ce hd
      have HOKM := hidm_ (rdMg_ok HDD.out he)
      have HE := hidm_ he
      have hi42 := i42 ⟨6, f, a, 0, 0, v, kr0, Xa, Aa, ca, Xd, Ad, cd, [], none, 0⟩ (by first | exact zbytes_len 32 | exact KL.out)
      clear he
      go_wp2_with (first
        | (go_at_call 44; ((with_reducible refine ce.mono ?_); clear ce; rintro e x9 ⟨rfl, rfl⟩))
        | (refine wpList_load_row rfl 45 (.tmp 5) rfl gM rfl 45 (mgC ⟨6, f, a, 0, 0, v, kr0, Xa, Aa, ca, Xd, Ad, cd, [], none, 0⟩).toArray (0, 0) _ T6.out.m Tryd.underlying45 rfl hi42 ?_)
        | (refine wpList_put_row rfl 45 (.tmp 2) (.tmp 84) rfl g (mgC ⟨6, f, a, 0, 0, v, kr0, Xa, Aa, ca, Xd, Ad, cd, [], none, 0⟩).toArray rfl rfl 45 (mgC mgZ).toArray T6.out.r0 hi42 (by rw [List.size_toArray, List.size_toArray, mgC_len mgZ rfl, mgC_len ⟨6, f, a, 0, 0, v, kr0, Xa, Aa, ca, Xd, Ad, cd, [], none, 0⟩ (by first | exact zbytes_len 32 | exact KL.out)]) (mgC_one _) ?_; intro y9 k9 g9 s9; have Y9 := hidm_ k9; have UG := hidm_ (show Untouched [g] u6 y9 from ⟨g9.os, g9.tape, g9.output, g9.size, fun b hb hne => g9.block b hb (fun e => by injection e with e; exact hne (by rw [e]; simp))⟩); clear k9 g9 s9))
      exact bodyPost_ret (results_cell_slotM Tryd.results12 _ _ g rfl rfl (run_loadVar_row _ _ _ _ _ (0, 0) _ Y9.out Tryd.underlying45 rfl hi42)) rfl ⟨⟨6, f, a, 0, 0, v, kr0, Xa, Aa, ca, Xd, Ad, cd, [], none, 0⟩, 0, rfl, by rw [HG.out]; exact T6.out.bel.trans (UG.out.below (fun k hk => by rw [List.mem_singleton.1 hk]; exact Nat.le_refl _) (Nat.le_of_lt T6.out.r0.lt)), ⟨kr0_ok _ _, (Oa3.out.keep UG.out (fun k hk hm => by have h9 := List.mem_singleton.1 hm; have := (Oa3.out.lt k hk).1; have := LTa.out; have := T6.out.gi_; have := T6.out.ord; omega)).rd.1, Oa3.out.cap, (Od2.out.keep UG.out (fun k hk hm => by have h9 := List.mem_singleton.1 hm; have := (Od2.out.lt k hk).1; have := LTd.out; have := T6.out.gi_; have := T6.out.ord; omega)).rd.1, Od2.out.cap, (by obtain ⟨_, _, hk32, _⟩ := HOKM.out; exact hk32.2.1), RdG.nil, ⟨Nat.zero_le _, Nat.zero_le _⟩, fun _ h => (by cases h)⟩, fun _ => ⟨rfl, by rw [HDD.out]; rfl⟩, fun h => absurd (by rw [HDD.out]; exact HE.out) h⟩
    case neg =>
      obtain ⟨E9, hE9⟩ : ∃ E, endS l6 e6 = E := ⟨_, rfl⟩
      have HE := hidm_ he
      rw [hE9] at ce
      have hd : (E9 != 0) = true := by rw [← hE9]; simpa using he
      have hd2 : (E9 == 0) = false := by rw [← hE9]; simpa using he
      have hd3 : decide (E9 = 0) = false := by rw [← hE9]; exact decide_eq_false he
      have hb0 := built_m0
      have hi42 := i42 mgZ rfl
      clear he hE9
      go_wp2_with (first
        | (go_at_call 44; ((with_reducible refine ce.mono ?_); clear ce; rintro e x9 ⟨rfl, rfl⟩))
        | (refine wpList_built rfl 45 #[] rfl (mgC mgZ).toArray hb0 ?_)
        | (refine wpList_put_row rfl 45 (.tmp 2) (.tmp 83) rfl g (mgC mgZ).toArray rfl rfl 45 (mgC mgZ).toArray T6.out.r0 hi42 rfl (mgC_one _) ?_; intro y9 k9 g9 s9; have Y9 := hidm_ k9; have UG := hidm_ (show Untouched [g] u6 y9 from ⟨g9.os, g9.tape, g9.output, g9.size, fun b hb hne => g9.block b hb (fun e => by injection e with e; exact hne (by rw [e]; simp))⟩); clear k9 g9 s9))
      exact bodyPost_ret (results_cell_slotM Tryd.results12 _ _ g rfl rfl (run_loadVar_row _ _ _ _ _ (0, 0) _ Y9.out Tryd.underlying45 rfl hi42)) rfl ⟨mgZ, 2, rfl, by rw [HG.out]; exact T6.out.bel.trans (UG.out.below (fun k hk => by rw [List.mem_singleton.1 hk]; exact Nat.le_refl _) (Nat.le_of_lt T6.out.r0.lt)), mgZ_ok _ _, fun h => absurd (by rw [HDD.out] at h; exact h) HE.out, fun _ => ⟨rfl, rfl⟩⟩
  by_cases k7 : k = 7
  case pos =>
    subst k7
    obtain ⟨Xa, l4, e4, h4⟩ : ∃ x b c, cntF atF l3 e3 = (x, b, c) := ⟨_, _, _, rfl⟩
    have HXa := hidm_ h4
    have HL4 := hidm_ (show l4.length ≤ 140737488355328 by have := cntF_le (f := atF) atF_le l3 e3; rw [h4] at this; exact Nat.le_trans this HL3.out)
    have cl := takes_at u3 gi l3 e3 F T3.out.inf T3.out.lts
    rw [h4] at cl
    unfold IN at cl
    simp only at cl
    clear h4
    have hib := hidm_ (show (Tryd.prog.info? 96).map (·.size) = some (#[Value.pointer (some ⟨gi, 0, none⟩)] : Array Value).size by kernel_rfl)
    go_upto_region 24 with (first
      | (refine wpList_load_row rfl 96 (.tmp 4) rfl gb rfl 96 #[.pointer (some ⟨gi, 0, none⟩)] (0, 0) _ T3.out.bx Tryd.underlying96 rfl hib.out ?_)
      | (go_at_call 40; ((with_reducible refine cl.mono ?_); clear cl; rintro e v3 ⟨Aa, na, ca, rfl, hO8, hI8, hU8⟩; have S3 := hidm_ (T3.out.read hI8 hU8); have Oa1 := hidm_ hO8; have LTa := hidm_ (show gM < u3.heap.size from T3.out.m.lt); have hcz := (S3.out.m.cell (39 + 0)).trans (mgC_hi ⟨7, f, a, 0, 0, 0, kr0, [], none, 0, [], none, 0, [], none, 0⟩ (zbytes_len 32) 0); have hfz := S3.out.m.frozen (39 + 0); simp only [Nat.reduceAdd, List.getElem?_cons_zero, List.getElem?_cons_succ] at hcz hfz; clear hI8 hU8 hO8)))
    generalize hu : v3.setCell _ _ = u4
    have UT : Untouched [gM] v3 u4 := by rw [← hu]; exact Untouched.set gM 39 (by simp) _
    obtain rfl : na = Xa.length := Oa1.out.rd.2
    have T4 := hidm_ (show RmS w g gb gM gi F ⟨7, f, a, 0, 0, 0, kr0, Xa, Aa, ca, [], none, 0, [], none, 0⟩ _ _ u4 from S3.out.put (by rw [← hu]; have k9 := S3.out.m.set_ (39 + 0) (.slice Aa Xa.length ca); rw [mgC_up _ (zbytes_len 32) 0] at k9; exact k9) UT)
    have Oa2 := hidm_ (Oa1.out.keep UT (fun k hk hm => by have h9 := List.mem_singleton.1 hm; have := (Oa1.out.lt k hk).1; have := LTa.out; omega))
    clear UT hu hcz hfz S3 Oa1 T3
    have hcb := T4.out.bx.cell 0
    obtain ⟨Xr, l5, e5, h5⟩ : ∃ x b c, cntF rowF l4 e4 = (x, b, c) := ⟨_, _, _, rfl⟩
    have HXr := hidm_ h5
    have HL5 := hidm_ (show l5.length ≤ 140737488355328 by have := cntF_le (f := rowF) rowF_le l4 e4; rw [h5] at this; exact Nat.le_trans this HL4.out)
    have cl := takes_row u4 gi l4 e4 F T4.out.inf T4.out.lts HL4.out
    rw [h5] at cl
    unfold IN at cl
    simp only at cl
    clear h5
    have hib := hidm_ (show (Tryd.prog.info? 96).map (·.size) = some (#[Value.pointer (some ⟨gi, 0, none⟩)] : Array Value).size by kernel_rfl)
    go_upto_region 25 with (first
      | (refine wpList_load_row rfl 96 (.tmp 4) rfl gb rfl 96 #[.pointer (some ⟨gi, 0, none⟩)] (0, 0) _ T4.out.bx Tryd.underlying96 rfl hib.out ?_)
      | (go_at_call 43; ((with_reducible refine cl.mono ?_); clear cl; rintro e v4 ⟨Ar, nr, cr, Lr, rfl, hL8, hO8, hS8, hI8, hU8⟩; have S4 := hidm_ (T4.out.read hI8 hU8); have Pa := hidm_ (Oa2.out.keep hU8 (fun k hk hm => by have h9 := List.mem_singleton.1 hm; have := (Oa2.out.lt k hk).1; have := LTa.out; have := T4.out.gi_; have := T4.out.ord; omega)); have HLL := hidm_ hL8; have OS1 := hidm_ hS8; clear hL8 hS8; have Or1 := hidm_ hO8; have LTr := hidm_ (show gM < u4.heap.size from T4.out.m.lt); have hcz := (S4.out.m.cell (39 + 2)).trans (mgC_hi ⟨7, f, a, 0, 0, 0, kr0, Xa, Aa, ca, [], none, 0, [], none, 0⟩ (zbytes_len 32) 2); have hfz := S4.out.m.frozen (39 + 2); simp only [Nat.reduceAdd, List.getElem?_cons_zero, List.getElem?_cons_succ] at hcz hfz; clear hI8 hU8 hO8)))
    generalize hu : v4.setCell _ _ = u5
    have UT : Untouched [gM] v4 u5 := by rw [← hu]; exact Untouched.set gM 41 (by simp) _
    obtain rfl : nr = Lr.length := Or1.out.rd.2
    have T5 := hidm_ (show RmS w g gb gM gi F ⟨7, f, a, 0, 0, 0, kr0, Xa, Aa, ca, [], none, 0, Lr, Ar, cr⟩ _ _ u5 from S4.out.put (by rw [← hu]; have k9 := S4.out.m.set_ (39 + 2) (.slice Ar Lr.length cr); rw [mgC_up _ (zbytes_len 32) 2] at k9; exact k9) UT)
    have Or2 := hidm_ (Or1.out.keep UT (fun k hk hm => by have h9 := List.mem_singleton.1 hm; have := (Or1.out.lt k hk).1; have := LTr.out; omega))
    have Oa3 := hidm_ (Pa.out.keep UT (fun k hk hm => by have h9 := List.mem_singleton.1 hm; have := (Pa.out.lt k hk).1; have := LTa.out; omega))
    clear Pa Oa2
    have OS2 := hidm_ (fun q hq => (OS1.out q hq).unt UT (fun k hk => by rw [List.mem_singleton.1 hk]; exact LTr.out))
    clear OS1
    clear UT hu hcz hfz S4 Or1 T4
    have hcb := T5.out.bx.cell 0
    have ce := end_anyc u5 gi l5 e5 F T5.out.inf
    have HDD := hidm_ (show rdMg l = (⟨7, f, a, 0, 0, 0, ⟨zbytes 32, []⟩, Xa, [], Xr⟩, l5, e5) by rw [HD.out]; unfold rdBody; simp [mg0, HXa.out, HXr.out])
    by_cases he : endS l5 e5 = 0
    case pos =>
      have hd : (endS l5 e5 != 0) = false := by rw [he]; rfl
      rw [he] at ce hd
      have HOKM := hidm_ (rdMg_ok HDD.out he)
      have HE := hidm_ he
      have hi42 := i42 ⟨7, f, a, 0, 0, 0, kr0, Xa, Aa, ca, [], none, 0, Lr, Ar, cr⟩ (by first | exact zbytes_len 32 | exact KL.out)
      clear he
      go_wp2_with (first
        | (go_at_call 44; ((with_reducible refine ce.mono ?_); clear ce; rintro e x9 ⟨rfl, rfl⟩))
        | (refine wpList_load_row rfl 45 (.tmp 5) rfl gM rfl 45 (mgC ⟨7, f, a, 0, 0, 0, kr0, Xa, Aa, ca, [], none, 0, Lr, Ar, cr⟩).toArray (0, 0) _ T5.out.m Tryd.underlying45 rfl hi42 ?_)
        | (refine wpList_put_row rfl 45 (.tmp 2) (.tmp 84) rfl g (mgC ⟨7, f, a, 0, 0, 0, kr0, Xa, Aa, ca, [], none, 0, Lr, Ar, cr⟩).toArray rfl rfl 45 (mgC mgZ).toArray T5.out.r0 hi42 (by rw [List.size_toArray, List.size_toArray, mgC_len mgZ rfl, mgC_len ⟨7, f, a, 0, 0, 0, kr0, Xa, Aa, ca, [], none, 0, Lr, Ar, cr⟩ (by first | exact zbytes_len 32 | exact KL.out)]) (mgC_one _) ?_; intro y9 k9 g9 s9; have Y9 := hidm_ k9; have UG := hidm_ (show Untouched [g] u5 y9 from ⟨g9.os, g9.tape, g9.output, g9.size, fun b hb hne => g9.block b hb (fun e => by injection e with e; exact hne (by rw [e]; simp))⟩); clear k9 g9 s9))
      exact bodyPost_ret (results_cell_slotM Tryd.results12 _ _ g rfl rfl (run_loadVar_row _ _ _ _ _ (0, 0) _ Y9.out Tryd.underlying45 rfl hi42)) rfl ⟨⟨7, f, a, 0, 0, 0, kr0, Xa, Aa, ca, [], none, 0, Lr, Ar, cr⟩, 0, rfl, by rw [HG.out]; exact T5.out.bel.trans (UG.out.below (fun k hk => by rw [List.mem_singleton.1 hk]; exact Nat.le_refl _) (Nat.le_of_lt T5.out.r0.lt)), ⟨kr0_ok _ _, (Oa3.out.keep UG.out (fun k hk hm => by have h9 := List.mem_singleton.1 hm; have := (Oa3.out.lt k hk).1; have := LTa.out; have := T5.out.gi_; have := T5.out.ord; omega)).rd.1, Oa3.out.cap, RdG.nil, ⟨Nat.zero_le _, Nat.zero_le _⟩, fun _ h => (by cases h), (Or2.out.keep UG.out (fun k hk hm => by have h9 := List.mem_singleton.1 hm; have := (Or2.out.lt k hk).1; have := LTr.out; have := T5.out.gi_; have := T5.out.ord; omega)).rd.1, Or2.out.cap, (fun x hx => by have h9 := (OS2.out x hx).unt UG.out (fun k hk => by rw [List.mem_singleton.1 hk]; have := LTr.out; have := T5.out.gi_; have := T5.out.ord; omega); exact ⟨(by obtain ⟨_, _, hk32, _⟩ := HOKM.out; exact hk32.2.2 x.r (by have hh := HLL.out; simp only at hh ⊢; rw [← hh]; exact List.mem_map_of_mem hx)), h9.rd.1, h9.cap⟩)⟩, fun _ => ⟨rfl, by rw [HDD.out]; show (⟨7, f, a, 0, 0, 0, ⟨zbytes 32, []⟩, Xa, [], Lr.map (·.r)⟩ : MgV) = _; rw [HLL.out]⟩, fun h => absurd (by rw [HDD.out]; exact HE.out) h⟩
    case neg =>
      obtain ⟨E9, hE9⟩ : ∃ E, endS l5 e5 = E := ⟨_, rfl⟩
      have HE := hidm_ he
      rw [hE9] at ce
      have hd : (E9 != 0) = true := by rw [← hE9]; simpa using he
      have hd2 : (E9 == 0) = false := by rw [← hE9]; simpa using he
      have hd3 : decide (E9 = 0) = false := by rw [← hE9]; exact decide_eq_false he
      have hb0 := built_m0
      have hi42 := i42 mgZ rfl
      clear he hE9
      go_wp2_with (first
        | (go_at_call 44; ((with_reducible refine ce.mono ?_); clear ce; rintro e x9 ⟨rfl, rfl⟩))
        | (refine wpList_built rfl 45 #[] rfl (mgC mgZ).toArray hb0 ?_)
        | (refine wpList_put_row rfl 45 (.tmp 2) (.tmp 83) rfl g (mgC mgZ).toArray rfl rfl 45 (mgC mgZ).toArray T5.out.r0 hi42 rfl (mgC_one _) ?_; intro y9 k9 g9 s9; have Y9 := hidm_ k9; have UG := hidm_ (show Untouched [g] u5 y9 from ⟨g9.os, g9.tape, g9.output, g9.size, fun b hb hne => g9.block b hb (fun e => by injection e with e; exact hne (by rw [e]; simp))⟩); clear k9 g9 s9))
      exact bodyPost_ret (results_cell_slotM Tryd.results12 _ _ g rfl rfl (run_loadVar_row _ _ _ _ _ (0, 0) _ Y9.out Tryd.underlying45 rfl hi42)) rfl ⟨mgZ, 2, rfl, by rw [HG.out]; exact T5.out.bel.trans (UG.out.below (fun k hk => by rw [List.mem_singleton.1 hk]; exact Nat.le_refl _) (Nat.le_of_lt T5.out.r0.lt)), mgZ_ok _ _, fun h => absurd (by rw [HDD.out] at h; exact h) HE.out, fun _ => ⟨rfl, rfl⟩⟩
  have d1 : decide (k = 1) = false := decide_eq_false k1
  have d2 : decide (k = 2) = false := decide_eq_false k2
  have d3 : decide (k = 3) = false := decide_eq_false k3
  have d4 : decide (k = 4) = false := decide_eq_false k4
  have d5 : decide (k = 5) = false := decide_eq_false k5
  have d6 : decide (k = 6) = false := decide_eq_false k6
  have d7 : decide (k = 7) = false := decide_eq_false k7
  have q1 : (k == 1) = false := by simpa using k1
  have q2 : (k == 2) = false := by simpa using k2
  have q3 : (k == 3) = false := by simpa using k3
  have q4 : (k == 4) = false := by simpa using k4
  have q5 : (k == 5) = false := by simpa using k5
  have q6 : (k == 6) = false := by simpa using k6
  have q7 : (k == 7) = false := by simpa using k7
  have HDD := hidm_ (show (rdMg l).2 = (l3, 1) by rw [HD.out]; unfold rdBody; simp [k1, k2, k3, k4, k5, k6, k7])
  have hb0 := built_m0
  have hi42 := i42 mgZ rfl
  clear k1 k2 k3 k4 k5 k6 k7
  go_wp2_with (first
    | (refine wpList_built rfl 45 #[] rfl (mgC mgZ).toArray hb0 ?_)
    | (refine wpList_put_row rfl 45 (.tmp 2) (.tmp 23) rfl g (mgC mgZ).toArray rfl rfl 45 (mgC mgZ).toArray T3.out.r0 hi42 rfl (mgC_one _) ?_; intro y9 k9 g9 s9; have Y9 := hidm_ k9; have UG := hidm_ (show Untouched [g] u3 y9 from ⟨g9.os, g9.tape, g9.output, g9.size, fun b hb hne => g9.block b hb (fun e => by injection e with e; exact hne (by rw [e]; simp))⟩); clear k9 g9 s9))
  exact bodyPost_ret (results_cell_slotM Tryd.results12 _ _ g rfl rfl (run_loadVar_row _ _ _ _ _ (0, 0) _ Y9.out Tryd.underlying45 rfl hi42)) rfl ⟨mgZ, 2, rfl, by rw [HG.out]; exact T3.out.bel.trans (UG.out.below (fun k hk => by rw [List.mem_singleton.1 hk]; exact Nat.le_refl _) (Nat.le_of_lt T3.out.r0.lt)), mgZ_ok _ _, fun h => by rw [HDD.out] at h; exact absurd h (by unfold endS; simp), fun _ => ⟨rfl, rfl⟩⟩
end Go.Proofs.YtegfnlnbhhmkjaaDoor
