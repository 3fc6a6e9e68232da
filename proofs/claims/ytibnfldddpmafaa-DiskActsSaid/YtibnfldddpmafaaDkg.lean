/-
  A disk: Write.
-/
import Derived.Test.YtibnfldddpmafaaDkf
namespace Go.Proofs.Ytibnfldddpmafaa
open Go.RowKit
set_option linter.unusedVariables false
set_option linter.unusedSimpArgs false

theorem step_built {P : Program} {ops : Array Oper} {o : Oper} {a : Act} {w : World} {K : Act → World → Prop} {Q : Exit → Act → World → Prop} {E : Prop} (hw : Region.wanted o (yielded ops a.tmps) = true) (t : TypeId) (parts : Array (Nat × Operand)) (ho : o.op = .build t parts) (X : Array Value)
    (hf : P.built t (parts.map fun (i, x) => (i, a.eval x)).toList = some X) (hk : K (a.put o.dst (.agg X)) w) : if Region.wanted o (yielded ops a.tmps) = true then Oper.wp P o a w K Q else E := by
  refine step_run hw (v := .agg X) (w' := w) ?_ hk
  have h := run_build (P := P) w t (parts.map fun (i, x) => (i, a.eval x)) X hf
  unfold execOp
  simp only [ho, Sem.run_bind, Sem.run_pure, h, Result.andThen_ok]
theorem step_store_mid {P : Program} {ops : Array Oper} {o : Oper} {a : Act} {w : World} {K : Act → World → Prop} {Q : Exit → Act → World → Prop} {E : Prop} (hw : Region.wanted o (yielded ops a.tmps) = true) (ty : TypeId) (x y : Operand) (ho : o.op = .store ty x y) (g off : Nat) (hx : a.eval x = .pointer (some ⟨g, off, none⟩)) (vs : Array Value) (hy : a.eval y = .agg vs)
    (t : TypeId) (cs : Array Value) (hb : Bk w g t cs) (hi : (P.info? ty).map (·.size) = some vs.size) (hl : off + vs.size ≤ cs.size) (h1 : ∀ v ∈ vs.toList, v.oneCell' = true)
    (hk : K (a.put o.dst undef) (w.setRow g (cs.toList.take off ++ vs.toList ++ cs.toList.drop (off + vs.toList.length)).toArray)) : if Region.wanted o (yielded ops a.tmps) = true then Oper.wp P o a w K Q else E := by
  refine step_skip hw (w' := w.setRow g (cs.toList.take off ++ vs.toList ++ cs.toList.drop (off + vs.toList.length)).toArray) ?_ hk
  have h := run_storeVar_mid hb ty off vs hi hl h1
  unfold execOp
  simp only [ho, hx, hy, Instr.storeAt, Instr.sureAddr, Sem.run_bind, Sem.run_pure, Result.andThen_ok, h]
/-- A block of sectors with another one in a place. -/
theorem sec_set {S : List (List UInt8)} (hS : ∀ D ∈ S, D.length = 64) (k : Nat) (hk : k < S.length) (D : List UInt8) (hD : D.length = 64) :
    ((flatC rowOf S).toArray.toList.take (k * 64) ++ (rowOf D).toList ++ (flatC rowOf S).toArray.toList.drop (k * 64 + (rowOf D).toList.length)).toArray = (flatC rowOf (S.set k D)).toArray := by
  rw [← flatC_set S k D hk (m := 64) (fun y hy => by rw [rowOf_size]; exact hS y hy) (by rw [rowOf_size]; exact hD)]
theorem sec_size {S : List (List UInt8)} (hS : ∀ D ∈ S, D.length = 64) (k : Nat) (hk : k < S.length) (D : List UInt8) (hD : D.length = 64) : k * 64 + (rowOf D).size ≤ (flatC rowOf S).toArray.size := by
  rw [rowOf_size, hD, List.size_toArray, flatC_len S (m := 64) (fun y hy => by rw [rowOf_size]; exact hS y hy)]
  omega
theorem sec_at {S : List (List UInt8)} (hS : ∀ D ∈ S, D.length = 64) (k : Nat) (hk : k < S.length) : ∀ j, j < (rowOf (S.getD k [])).size → (flatC rowOf S).toArray[k * 64 + j]? = (rowOf (S.getD k []))[j]? := fun j hj => by
  have h64 := getD_mem64 hS k hk
  rw [rowOf_size, h64] at hj
  have e : S.getD k [] = S[k] := by simp [List.getD, hk]
  rw [List.getElem?_toArray, flatC_at _ k j hk (fun x hx => by rw [rowOf_size]; exact hS x hx) hj, e]
/-- What Write's line leaves. -/
def WrR (p q n k r : Nat) (A : Option Addr) (c : Nat) (S D : List UInt8) : Nat → Value → Prop
  | 0, v => v = .pointer (some ⟨p, 0, none⟩)
  | 1, v => v = .pointer (some ⟨p, 0, none⟩)
  | 2, v => v = .pointer (some ⟨p, 0, none⟩)
  | 3, v => v = .pointer (some ⟨p, 1, none⟩)
  | 4, v => v = .slice A r c
  | 5, v => v = .int .i64 (k : Int)
  | 6, v => v = .pointer (some ⟨p, 0, none⟩)
  | 7, v => v = .pointer (some ⟨p, 0, none⟩)
  | 8, v => v = .pointer (some ⟨p, 0, none⟩)
  | 9, v => v = .slice (some ⟨q, 0, none⟩) n n
  | 10, v => v = .int .i64 (k : Int)
  | 11, v => v = .pointer (some ⟨q, k * 64, none⟩)
  | 12, v => v = .agg (rowOf S)
  | 13, v => v = .agg (rowOf D)
  | 14, v => v = .agg (wrR (k, S, D))
  | 17, v => v = .pointer (some ⟨p, 0, none⟩)
  | 18, v => v = .pointer (some ⟨p, 1, none⟩)
  | _, _ => True
def WsR (p q n k : Nat) (D : List UInt8) : Nat → Value → Prop
  | 0, v => v = .pointer (some ⟨p, 0, none⟩)
  | 1, v => v = .pointer (some ⟨p, 0, none⟩)
  | 2, v => v = .pointer (some ⟨p, 0, none⟩)
  | 3, v => v = .slice (some ⟨q, 0, none⟩) n n
  | 4, v => v = .int .i64 (k : Int)
  | 5, v => v = .agg (rowOf D)
  | 6, v => v = .pointer (some ⟨q, k * 64, none⟩)
  | _, _ => True
def dpsW : Nat → List Nat
  | 2 => [1]
  | 3 => [2]
  | 4 => [3]
  | 7 => [6]
  | 8 => [7]
  | 9 => [8]
  | 11 => [9, 10]
  | 12 => [11]
  | 14 => [5, 12, 13]
  | 15 => [14]
  | 16 => [4, 15]
  | 17 => [0]
  | 18 => [17]
  | 19 => [18, 16]
  | _ => []
def dpsV : Nat → List Nat
  | 1 => [0]
  | 2 => [1]
  | 3 => [2]
  | 6 => [3, 4]
  | 7 => [6, 5]
  | _ => []

/-- The disk with a write appended whose sector isn't there yet. -/
structure Mid (b0 : Nat) (w1 : World) (p q n : Nat) (F : List (List UInt8)) (R : List WrV) (x : WrV) (fu : Nat) (off : Bool) (g0 : Nat) (W : World) : Prop where
  lo : ∃ v, Bk W p 63 #[.slice (some ⟨q, 0, none⟩) n n, v, .int .i64 (fu : Int), .bool off] ∧ W.ownsRow b0 68 129 v (R.length + 1) (flatC wrR (wasL F (R ++ [x])))
  bq : Bk W q 27 (flatC rowOf (appl F R)).toArray
  bg : Bk W g0 27 (rowOf x.2)
  be : Below b0 w1 W
  un : UnT dkT w1 W
section
variable {b0 : Nat} {w w1 : World} {p q n : Nat} {F : List (List UInt8)} {R : List WrV} {fu : Nat} {off : Bool}
theorem Mid.drew {x : WrV} {g0 : Nat} {W : World} (m : Mid b0 w1 p q n F R x fu off g0 W) : Mid b0 w1 p q n F R x fu off g0 { W with drawn := W.drawn + 1 } :=
  ⟨m.lo, m.bq, m.bg, ⟨m.be.os, m.be.tape, m.be.output, m.be.size, m.be.block⟩, m.un⟩
/-- The disk behind a write. -/
theorem Mid.whole {v : Value} {x : WrV} {g0 : Nat} {W : World} (h : DkV b0 w1 p q n F R v fu off) (m : Mid b0 w1 p q n F R x fu off g0 W) (hw1 : b0 ≤ w1.heap.size) (hx : x.1 < n) (h64 : x.2.length = 64) :
    DkI b0 (W.setRow q (flatC rowOf ((appl F R).set x.1 x.2)).toArray) p q n F (R ++ [x]) fu off ∧ Below b0 w1 (W.setRow q (flatC rowOf ((appl F R).set x.1 x.2)).toArray) ∧ UnT dkT w1 (W.setRow q (flatC rowOf ((appl F R).set x.1 x.2)).toArray) := by
  obtain ⟨v', k1, k2⟩ := m.lo
  have hg := setRow_grown W q (flatC rowOf ((appl F R).set x.1 x.2)).toArray
  have hu : UnT dkT W (W.setRow q (flatC rowOf ((appl F R).set x.1 x.2)).toArray) := UnT.of_grown hg fun k e => by
    injection e with e
    subst e
    exact ⟨_, _, _, m.bq, by simp [dkT]⟩
  refine ⟨⟨v', h.hp, h.hq, h.n1, h.n2, h.hF, h.F64, fun y hy => ?_, h.hfu, k1.rowfar (k1.neT m.bq (by decide)) _, ?_, ?_⟩, m.be.grown hg (Nat.le_trans hw1 m.be.size) (fun k e => by injection e with e; subst e; exact h.hq), m.un.trans hu⟩
  · rcases List.mem_append.1 hy with h1 | h1
    · exact h.hR y h1
    · simp at h1
      subst h1
      exact ⟨hx, h64⟩
  · rw [List.length_append]
    exact ownsRow_heapk k2 fun g e => setRow_other W q g _ fun e2 => by
      subst e2
      exact m.bq.neRow k2 (by decide) e.symm
  · rw [appl_snoc]
    exact m.bq.rowed _
/-- What the append's store leaves. -/
theorem mid_of {b0 : Nat} {w1 W0 W : World} {p q n g0 r k fu : Nat} {F : List (List UInt8)} {R : List WrV} {S D : List UInt8} {C : Array Value} {off : Bool} {A A2 : Option Addr} {c c2 : Nat} (hp : b0 ≤ p) (hS : (appl F R).getD k [] = S) (hC : (flatC rowOf (appl F R)).toArray = C) (hr : R.length = r)
    (be : Below w1.heap.size w1 W0) (hw1 : b0 ≤ w1.heap.size) (lo : W0.ownsRow b0 68 129 (.slice A R.length c) R.length (flatC wrR (wasL F R)))
    (o1 : Bk W p 63 #[.slice (some ⟨q, 0, none⟩) n n, .slice A r c, .int .i64 (fu : Int), .bool off]) (o2 : Bk W q 27 C) (o3 : Bk W g0 27 (rowOf D))
    (c3 : W.ownsRow b0 68 129 (.slice A2 (r + 1) c2) (r + 1) (flatC wrR (wasL F R ++ [(k, S, D)]))) (c4 : (W0.alloc (.cells (wrR (k, S, D)) 68)).grownBy W (Value.slice A r c).ownBlock) :
    Mid b0 w1 p q n F R (k, D) fu off g0 (W.setCell ⟨p, 1, none⟩ (.slice A2 (r + 1) c2)) := by
  subst hr hS hC
  have hpq : q ≠ p := o2.neT o1 (by decide)
  have hpg : g0 ≠ p := o3.neT o1 (by decide)
  have hb1 : Below w1.heap.size w1 (W0.alloc (.cells (wrR (k, (appl F R).getD k [], D)) 68)) := be.trans (((Below.refl _ _).alloc (Nat.le_refl _) _).mono be.size)
  have hrow := World.ownsRow.alloc lo (.cells (wrR (k, (appl F R).getD k [], D)) 68)
  have hty := ownsRow_ty hrow
  have u1 : UnT dkT w1 W := (UnT.of_below hb1).trans (UnT.of_grown c4 fun g e => by
    obtain ⟨_, _, cs, hh⟩ := hty g e
    exact ⟨cs, _, _, hh, by simp [dkT]⟩)
  have b1 : Below b0 w1 W := (hb1.mono hw1).grown c4 (Nat.le_trans hw1 hb1.size) fun g e => (hty g e).1
  obtain ⟨p1, p2⟩ := Bk.putD (b0 := b0) (T := dkT) o1 hp (by simp [dkT]) 1 (.slice A2 (R.length + 1) c2)
  refine ⟨⟨_, o1.set_ 1 _, ?_⟩, o2.far (p := ⟨p, 1, none⟩) hpq _, o3.far (p := ⟨p, 1, none⟩) hpg _, b1.trans p1, u1.trans p2⟩
  rw [wasL_snoc]
  exact ownsRow_heapk c3 fun g e => Below.heap_setCell W ⟨p, 1, none⟩ _ g fun e2 => by
    have e3 : g = p := e2
    subst e3
    exact o1.neRow c3 (by decide) e.symm
set_option maxRecDepth 100000 in
set_option maxHeartbeats 1000000 in
theorem dwrite_no (h : DkI b0 w p q n F R fu off) (z : Int) (D : List UInt8) (hE : hasE n off z ≠ 0) : Calls Try.prog 12 #[.pointer (some ⟨p, 0, none⟩), .int .i64 z, .agg (rowOf D)] w fun e w' => e = .returned (.int .i64 (hasE n off z)) ∧ Below w.heap.size w w' := by
  obtain ⟨w1, hw1⟩ : ∃ W, w.alloc (.cells (rowOf D) 27) = W := ⟨_, rfl⟩
  have b1 : Below w.heap.size w w1 := by rw [← hw1]; exact (Below.refl _ _).alloc (Nat.le_refl _) _
  have ci := dhas_any (h.below b1) z
  have B1 := hidD_ b1
  generalize hasE n off z = er at ci hE ⊢
  have d0 : (er == 0) = false := by simpa using hE
  clear h b1 hE
  go_enter Try.func12, Try.ntmps12
  go_wp2_with (go_at_call 27; ((with_reducible refine ci.mono ?_); clear ci; rintro e w' ⟨rfl, rfl⟩))
  go_ret
  exact ⟨rfl, B1.out⟩
set_option maxRecDepth 100000 in
set_option maxHeartbeats 1000000 in
theorem dwrite_nil (w : World) (z : Int) (D : List UInt8) : Calls Try.prog 12 #[.pointer none, .int .i64 z, .agg (rowOf D)] w fun e w' => e = .returned (.int .i64 1) ∧ Below w.heap.size w w' := by
  obtain ⟨w1, hw1⟩ : ∃ W, w.alloc (.cells (rowOf D) 27) = W := ⟨_, rfl⟩
  have b1 : Below w.heap.size w w1 := by rw [← hw1]; exact (Below.refl _ _).alloc (Nat.le_refl _) _
  have ci := dhas_nil w1 z
  have B1 := hidD_ b1
  clear b1
  go_enter Try.func12, Try.ntmps12
  go_wp2_with (go_at_call 27; ((with_reducible refine ci.mono ?_); clear ci; rintro e w' ⟨rfl, rfl⟩))
  go_ret
  exact ⟨rfl, B1.out⟩
theorem has_ok {z : Int} (h : hasE n off z = 0) : off = false ∧ 0 ≤ z ∧ z < (n : Int) := by
  unfold hasE at h
  cases off
  · rw [if_neg (by decide)] at h
    split at h
    · cases h
    · exact ⟨rfl, by omega, by omega⟩
  · rw [if_pos rfl] at h
    cases h
theorem hasE_ok (n k : Nat) (hk : k < n) : hasE n false (k : Int) = 0 := by
  unfold hasE
  rw [if_neg (by decide), if_neg (by omega)]
set_option maxRecDepth 100000 in
set_option maxHeartbeats 8000000 in
theorem dwrite_yes (h : DkI b0 w p q n F R fu false) (hb0 : b0 ≤ w.heap.size) (k : Nat) (hk : k < n) (D : List UInt8) (hD : D.length = 64) (hr6 : R.length + 1 ≤ 1000000) :
    Calls Try.prog 12 #[.pointer (some ⟨p, 0, none⟩), .int .i64 (k : Int), .agg (rowOf D)] w (DkP b0 w p q n F (R ++ [(k, D)]) (fu - 1) (burnO fu false) (burnE fu)) := by
  obtain ⟨g0, hg0⟩ : ∃ g, w.heap.size = g := ⟨_, rfl⟩
  obtain ⟨w1, hw1⟩ : ∃ W, w.alloc (.cells (rowOf D) 27) = W := ⟨_, rfl⟩
  have b1 : Below w.heap.size w w1 := by rw [← hw1]; exact (Below.refl _ _).alloc (Nat.le_refl _) _
  have h1 := h.below b1
  have ci := dhas_any h1 (k : Int)
  rw [hasE_ok n k hk] at ci
  obtain ⟨v, hv⟩ := h1
  obtain ⟨A, c, rfl⟩ := hv.form
  have BG : Bk w1 g0 27 (rowOf D) := by rw [← hw1, ← hg0]; exact Bk.new w _ _
  have hkS : k < (appl F R).length := by rw [appl_len, hv.hF]; exact hk
  have HV := hidD_ hv
  have HI := hidD_ (iSec D hD)
  have HIS := hidD_ (iSec ((appl F R).getD k []) (getD_mem64 hv.app64 k hkS))
  have HAT := hidD_ (sec_at hv.app64 k hkS)
  have HS64 := hidD_ (getD_mem64 hv.app64 k hkS)
  have HSET := hidD_ (sec_set hv.app64 k hkS D hD)
  have HSZ := hidD_ (sec_size hv.app64 k hkS D hD)
  have HB1 := hidD_ b1
  have HB0 := hidD_ hb0
  have HW1 := hidD_ (show b0 ≤ w1.heap.size from Nat.le_trans hb0 b1.size)
  have HR6 := hidD_ hr6
  have HD := hidD_ hD
  have HK := hidD_ hk
  have t0 : (0 : Int) ≤ (k : Int) := by omega
  have tn : (k : Int) < (n : Int) := by omega
  obtain ⟨S, hS⟩ : ∃ S, (appl F R).getD k [] = S := ⟨_, rfl⟩
  obtain ⟨C, hC⟩ : ∃ C, (flatC rowOf (appl F R)).toArray = C := ⟨_, rfl⟩
  rw [hS] at HIS HAT HS64
  rw [hC] at HAT HSET HSZ
  have OLD := hidD_ (show Bk w1 p 63 #[.slice (some ⟨q, 0, none⟩) n n, .slice A R.length c, .int .i64 (fu : Int), .bool false] ∧ Bk w1 q 27 C ∧ Bk w1 g0 27 (rowOf D) from ⟨hv.bp, by rw [← hC]; exact hv.bq, BG⟩)
  have HC := hidD_ hC
  have HSS := hidD_ hS
  have LO := hidD_ hv.lo
  obtain ⟨r, hr⟩ : ∃ r, R.length = r := ⟨_, rfl⟩
  rw [hr] at OLD
  have HR := hidD_ hr
  clear h hv hb0 b1 hr6 hD hkS hC hS hr BG
  go_enter Try.func12, Try.ntmps12
  go_upto_region 4 with (go_at_call 27; ((with_reducible refine ci.mono ?_); clear ci; rintro e w' ⟨rfl, rfl⟩))
  obtain ⟨W0, hW0⟩ : ∃ W0, { w1 with drawn := w1.drawn + 1 } = W0 := ⟨_, rfl⟩
  have OLD0 := hidD_ (show Bk W0 p 63 #[.slice (some ⟨q, 0, none⟩) n n, .slice A r c, .int .i64 (fu : Int), .bool false] ∧ Bk W0 q 27 C ∧ Bk W0 g0 27 (rowOf D) by rw [← hW0]; exact OLD.out)
  have LO0 := hidD_ (show W0.ownsRow b0 68 129 (.slice A R.length c) R.length (flatC wrR (wasL F R)) by rw [← hW0]; exact LO.out)
  have BE0 := hidD_ (show Below w1.heap.size w1 W0 by rw [← hW0]; exact (Below.refl _ _).drew)
  refine region_byJF [14, 15, 16, 17, 18, 19, 20, 21, 22, 23, 24, 25, 26, 27, 28, 29, 30, 31, 32] (fun _ => True) (fun _ _ => True) (fun jj v _ => WrR p q n k r A c S D jj v) (fun D2 a W => ApP dpsW 15 29 16 30 19 W0 (fun W => Bk W p 63 #[.slice (some ⟨q, 0, none⟩) n n, .slice A r c, .int .i64 (fu : Int), .bool false] ∧ Bk W q 27 C ∧ Bk W g0 27 (rowOf D)) (fun v W => v = .slice (some ⟨W0.heap.size, 0, none⟩) 1 1 ∧ W = W0.alloc (.cells (wrR (k, S, D)) 68)) (fun v W => ∃ A2 c2, v = .slice A2 (r + 1) c2 ∧ W.ownsRow b0 68 129 (.slice A2 (r + 1) c2) (r + 1) (flatC wrR (wasL F R ++ [(k, S, D)])) ∧ (W0.alloc (.cells (wrR (k, S, D)) 68)).grownBy W (Value.slice A r c).ownBlock) (fun W => Mid b0 w1 p q n F R (k, D) fu false g0 W) D2 a W) (by kernel_rfl) (by kernel_rfl) (by kernel_rfl) (by kernel_rfl) (fun j v w w' hT hr => ?_) (fun j v w hlt hj _ => ?_) trivial ?_ (by rw [hW0]; exact ApP.start OLD0.out) ?_
  · exact hr
  · rcases j with _ | _ | _ | _ | _ | _ | _ | _ | _ | _ | _ | _ | _ | _ | _ | _ | _ | _ | _ | _ | j
    all_goals first
      | (exfalso; simp [dstOf] at hj; done)
      | trivial
  · refine ⟨fun D2 a W hC hd hsz hf hv hJ hL hW K hK => ?_, fun D2 a W hC hd hsz hf hv hJ hL hW K hK => ?_, fun D2 a W hC hd hsz hf hv hJ hL hW K hK => ?_, fun D2 a W hC hd hsz hf hv hJ hL hW K hK => ?_, fun D2 a W hC hd hsz hf hv hJ hL hW K hK => ?_, fun D2 a W hC hd hsz hf hv hJ hL hW K hK => ?_, fun D2 a W hC hd hsz hf hv hJ hL hW K hK => ?_, fun D2 a W hC hd hsz hf hv hJ hL hW K hK => ?_, fun D2 a W hC hd hsz hf hv hJ hL hW K hK => ?_, fun D2 a W hC hd hsz hf hv hJ hL hW K hK => ?_, fun D2 a W hC hd hsz hf hv hJ hL hW K hK => ?_, fun D2 a W hC hd hsz hf hv hJ hL hW K hK => ?_, fun D2 a W hC hd hsz hf hv hJ hL hW K hK => ?_, fun D2 a W hC hd hsz hf hv hJ hL hW K hK => ?_, fun D2 a W hC hd hsz hf hv hJ hL hW K hK => ?_, fun D2 a W hC hd hsz hf hv hJ hL hW K hK => ?_, fun D2 a W hC hd hsz hf hv hJ hL hW K hK => ?_, fun D2 a W hC hd hsz hf hv hJ hL hW K hK => ?_, fun D2 a W hC hd hsz hf hv hJ hL hW K hK => ?_, fun D2 a W hC hd hsz hf hv hJ hL hW K hK => ?_, trivial⟩
    · clear hsz
      have e1 := slot_of (a := a) (s := 0) (v := .pointer (some ⟨p, 0, none⟩)) (hf 0 (by kernel_rfl))
      refine step_run (wanted_none rfl) (v := .pointer (some ⟨p, 0, none⟩)) (w' := W) ?_ (hK _ _ trivial trivial rfl (hJ.same 0 _ _ (by decide) (by decide) ls0))
      go_simp
    · clear hsz
      have e1 := slot_of (a := a) (s := 0) (v := .pointer (some ⟨p, 0, none⟩)) (hf 0 (by kernel_rfl))
      refine step_run (wanted_none rfl) (v := .pointer (some ⟨p, 0, none⟩)) (w' := W) ?_ (hK _ _ trivial trivial rfl (hJ.same 1 _ _ (by decide) (by decide) ls0))
      go_simp
    · clear hsz
      have e1 := slot_of (a := a) (s := 15) (v := .pointer (some ⟨p, 0, none⟩)) (hv 1 (by kernel_rfl))
      refine step_run (wanted_none rfl) (v := .pointer (some ⟨p, 0, none⟩)) (w' := W) ?_ (hK _ _ trivial trivial rfl (hJ.same 2 _ _ (by decide) (by decide) (ls1 (hW 1 (by kernel_rfl)))))
      go_simp
    · clear hsz
      have e1 := slot_of (a := a) (s := 16) (v := .pointer (some ⟨p, 0, none⟩)) (hv 2 (by kernel_rfl))
      refine step_run (wanted_none rfl) (v := .pointer (some ⟨p, 1, none⟩)) (w' := W) ?_ (hK _ _ trivial trivial rfl (hJ.same 3 _ _ (by decide) (by decide) (ls1 (hW 2 (by kernel_rfl)))))
      go_simp
    · clear hsz
      have e1 := slot_of (a := a) (s := 17) (v := .pointer (some ⟨p, 1, none⟩)) (hv 3 (by kernel_rfl))
      obtain ⟨o1, o2, o3⟩ := hJ.get 4 [16, 19] rfl rfl hL
      have cc := o1.cell 1
      simp only [List.getElem?_toArray, List.getElem?_cons_zero, List.getElem?_cons_succ] at cc
      refine step_run (wanted_none rfl) (v := .slice A r c) (w' := W) ?_ (hK _ _ trivial trivial rfl (hJ.same 4 _ _ (by decide) (by decide) (ls1 (hW 3 (by kernel_rfl)))))
      go_simp
    · clear hsz
      have e1 := slot_of (a := a) (s := 1) (v := .int .i64 (k : Int)) (hf 1 (by kernel_rfl))
      refine step_run (wanted_none rfl) (v := .int .i64 (k : Int)) (w' := W) ?_ (hK _ _ trivial trivial rfl (hJ.same 5 _ _ (by decide) (by decide) ls0))
      go_simp
    · clear hsz
      have e1 := slot_of (a := a) (s := 0) (v := .pointer (some ⟨p, 0, none⟩)) (hf 0 (by kernel_rfl))
      refine step_run (wanted_none rfl) (v := .pointer (some ⟨p, 0, none⟩)) (w' := W) ?_ (hK _ _ trivial trivial rfl (hJ.same 6 _ _ (by decide) (by decide) ls0))
      go_simp
    · clear hsz
      have e1 := slot_of (a := a) (s := 20) (v := .pointer (some ⟨p, 0, none⟩)) (hv 6 (by kernel_rfl))
      refine step_run (wanted_none rfl) (v := .pointer (some ⟨p, 0, none⟩)) (w' := W) ?_ (hK _ _ trivial trivial rfl (hJ.same 7 _ _ (by decide) (by decide) (ls1 (hW 6 (by kernel_rfl)))))
      go_simp
    · clear hsz
      have e1 := slot_of (a := a) (s := 21) (v := .pointer (some ⟨p, 0, none⟩)) (hv 7 (by kernel_rfl))
      refine step_run (wanted_none rfl) (v := .pointer (some ⟨p, 0, none⟩)) (w' := W) ?_ (hK _ _ trivial trivial rfl (hJ.same 8 _ _ (by decide) (by decide) (ls1 (hW 7 (by kernel_rfl)))))
      go_simp
    · clear hsz
      have e1 := slot_of (a := a) (s := 22) (v := .pointer (some ⟨p, 0, none⟩)) (hv 8 (by kernel_rfl))
      obtain ⟨o1, o2, o3⟩ := hJ.get 9 [11, 12, 14, 15, 16, 19] rfl rfl hL
      have cc := o1.cell 0
      simp only [List.getElem?_toArray, List.getElem?_cons_zero, List.getElem?_cons_succ] at cc
      refine step_run (wanted_none rfl) (v := .slice (some ⟨q, 0, none⟩) n n) (w' := W) ?_ (hK _ _ trivial trivial rfl (hJ.same 9 _ _ (by decide) (by decide) (ls1 (hW 8 (by kernel_rfl)))))
      go_simp
    · clear hsz
      have e1 := slot_of (a := a) (s := 1) (v := .int .i64 (k : Int)) (hf 1 (by kernel_rfl))
      refine step_run (wanted_none rfl) (v := .int .i64 (k : Int)) (w' := W) ?_ (hK _ _ trivial trivial rfl (hJ.same 10 _ _ (by decide) (by decide) ls0))
      go_simp
    · clear hsz
      have e1 := slot_of (a := a) (s := 23) (v := .slice (some ⟨q, 0, none⟩) n n) (hv 9 (by kernel_rfl))
      have e2 := slot_of (a := a) (s := 24) (v := .int .i64 (k : Int)) (hv 10 (by kernel_rfl))
      refine step_run (wanted_none rfl) (v := .pointer (some ⟨q, k * 64, none⟩)) (w' := W) ?_ (hK _ _ trivial trivial rfl (hJ.same 11 _ _ (by decide) (by decide) (ls2 (hW 9 (by kernel_rfl)) (hW 10 (by kernel_rfl)))))
      go_simp
    · clear hsz
      obtain ⟨o1, o2, o3⟩ := hJ.get 12 [14, 15, 16, 19] rfl rfl hL
      refine step_load_sub (wanted_none rfl) 27 (.tmp 25) rfl q (k * 64) (eval_of (hv 11 (by kernel_rfl))) (rowOf S) (fun j hj => (o2.cell _).trans (HAT.out j hj)) _ Try.underlying27 rfl HIS.out ?_
      exact hK _ _ trivial trivial rfl (hJ.same 12 _ _ (by decide) (by decide) (ls1 (hW 11 (by kernel_rfl))))
    · clear hsz
      obtain ⟨o1, o2, o3⟩ := hJ.get 13 [14, 15, 16, 19] rfl rfl hL
      refine step_load_row rfl 27 (.tmp 5) rfl g0 (eval_of (hf 5 (by kernel_rfl))) 27 (rowOf D) o3 _ Try.underlying27 rfl HI.out ?_
      exact hK _ _ trivial trivial rfl (hJ.same 13 _ _ (by decide) (by decide) ls0)
    · clear hsz
      have e1 := eval_of (a := a) (s := 19) (v := .int .i64 (k : Int)) (hv 5 (by kernel_rfl))
      have e2 := eval_of (a := a) (s := 26) (v := .agg (rowOf S)) (hv 12 (by kernel_rfl))
      have e3 := eval_of (a := a) (s := 27) (v := .agg (rowOf D)) (hv 13 (by kernel_rfl))
      refine step_built (wanted_none rfl) 68 #[(0, .tmp 19), (1, .tmp 26), (2, .tmp 27)] rfl (wrR (k, S, D)) ?_ ?_
      · simp only [List.map_toArray, List.map_cons, List.map_nil, e1, e2, e3]
        exact built_wr k S D HS64.out HD.out
      · exact hK _ _ trivial trivial rfl (hJ.same 14 _ _ (by decide) (by decide) (ls3 (hW 5 (by kernel_rfl)) (hW 12 (by kernel_rfl)) (hW 13 (by kernel_rfl))))
    · have e1 := eval_of (a := a) (s := 28) (v := .agg (wrR (k, S, D))) (hv 14 (by kernel_rfl))
      rw [hJ.z hL]
      obtain ⟨o1, o2, o3⟩ := OLD0.out
      have HLT : 29 < a.tmps.size := (by rw [hsz]; simp)
      clear hsz
      refine step_run (wanted_none rfl) (v := .slice (some ⟨W0.heap.size, 0, none⟩) 1 1) (w' := W0.alloc (.cells (wrR (k, S, D)) 68)) ?_ (hK _ _ trivial trivial trivial (hJ.lay _ hL (by decide) (ls1 (hW 14 (by kernel_rfl))) rfl rfl HLT ⟨o1.alloc _, o2.alloc _, o3.alloc _⟩ ⟨rfl, rfl⟩))
      unfold execOp
      simp only [Sem.run_bind, Sem.run_pure, List.map_toArray, List.map_cons, List.map_nil, e1, run_oneW W0 (k, S, D) HS64.out HD.out, Result.andThen_ok]
    · obtain ⟨b1, b2⟩ := hJ.b (hW 15 (by kernel_rfl)) hL
      obtain ⟨o1, o2, o3⟩ := hJ.get 16 [19] rfl rfl hL
      subst b2
      have e1 := eval_of (a := a) (s := 18) (v := .slice A r c) (hv 4 (by kernel_rfl))
      have e2 := eval_of b1
      have HLT : 30 < a.tmps.size := (by rw [hsz]; simp)
      clear hsz
      have hrow := (World.ownsRow.alloc LO0.out (.cells (wrR (k, S, D)) 68))
      rw [← wasL_len R F] at hrow
      obtain ⟨A2, c2, W2, hrun, k1, k2⟩ := run_appW hrow (k, S, D) HS64.out HD.out W0.heap.size (Bk.new W0 _ _) 61 1 (by rw [wasL_len]; exact HR6.out) (by have := HW1.out; have := BE0.out.size; simp; omega)
      rw [wasL_len, HR.out] at hrun k1 k2
      rw [if_pos (wanted_none rfl)]
      unfold Oper.wp execOp
      simp only [resolve, invoke, builtin, Sem.run_bind, Sem.run_pure, Result.andThen_ok, List.map_toArray, List.map_cons, List.map_nil, e1, e2, hrun]
      have hne : ∀ {g : Nat} {t : TypeId} {cs : Array Value}, Bk (W0.alloc (.cells (wrR (k, S, D)) 68)) g t cs → t ≠ 68 → some g ≠ (Value.slice A r c).ownBlock := fun hb ht => by rw [wasL_len, HR.out] at hrow; exact hb.neRow hrow ht
      exact hK _ _ trivial trivial trivial (hJ.app _ hL (by decide) (ls2 (hW 4 (by kernel_rfl)) (hW 15 (by kernel_rfl))) (hW 15 (by kernel_rfl)) rfl HLT ⟨o1.grown k2 (hne o1 (by decide)), o2.grown k2 (hne o2 (by decide)), o3.grown k2 (hne o3 (by decide))⟩ ⟨A2, c2, rfl, k1, k2⟩)
    · clear hsz
      have e1 := slot_of (a := a) (s := 14) (v := .pointer (some ⟨p, 0, none⟩)) (hv 0 (by kernel_rfl))
      refine step_run (wanted_none rfl) (v := .pointer (some ⟨p, 0, none⟩)) (w' := W) ?_ (hK _ _ trivial trivial rfl (hJ.same 17 _ _ (by decide) (by decide) (ls1 (hW 0 (by kernel_rfl)))))
      go_simp
    · clear hsz
      have e1 := slot_of (a := a) (s := 31) (v := .pointer (some ⟨p, 0, none⟩)) (hv 17 (by kernel_rfl))
      refine step_run (wanted_none rfl) (v := .pointer (some ⟨p, 1, none⟩)) (w' := W) ?_ (hK _ _ trivial trivial rfl (hJ.same 18 _ _ (by decide) (by decide) (ls1 (hW 17 (by kernel_rfl)))))
      go_simp
    · clear hsz
      obtain ⟨A2, c2, c1, c3, c4⟩ := hJ.c (hW 16 (by kernel_rfl)) hL
      obtain ⟨o1, o2, o3⟩ := hJ.old hL
      have e1 := slot_of (a := a) (s := 32) (v := .pointer (some ⟨p, 1, none⟩)) (hv 18 (by kernel_rfl))
      have e2 := slot_of c1
      have cc := o1.cell 1
      have cf := o1.frozen 1
      simp only [List.getElem?_toArray, List.getElem?_cons_zero, List.getElem?_cons_succ] at cc
      have hib : D2 15 = true := hJ.cl 16 (hW 16 (by kernel_rfl)) 15 (by simp [dpsW])
      refine step_skip (wanted_none rfl) (w' := W.setCell ⟨p, 1, none⟩ (.slice A2 (r + 1) c2)) ?_ (hK undef _ trivial trivial trivial (hJ.store (by decide) (ls2 (hW 18 (by kernel_rfl)) (hW 16 (by kernel_rfl))) hib (hW 16 (by kernel_rfl)) _ (mid_of HV.out.hp HSS.out HC.out HR.out BE0.out HW1.out LO0.out o1 o2 o3 c3 c4)))
      go_simp
  · intro f wz hC4 hv4 L2 hL2 hJ2
    obtain ⟨aE, hJ, hfr⟩ := hJ2
    have M := hidD_ (hJ.fin (hL2 19 (by decide)))
    simp only [framed, List.foldl_cons, List.foldl_nil, List.setIfInBounds_toArray, List.set_cons_succ, List.set_cons_zero]
    clear hv4 hC4 hJ hfr hL2
    rename_i K hK
    refine hK _ _ ?_
    go_upto_region 5 with fail
    obtain ⟨wm, hwm⟩ : ∃ W, { wz with drawn := wz.drawn + 1 } = W := ⟨_, rfl⟩
    replace M := hidD_ (show Mid b0 w1 p q n F R (k, D) fu false g0 wm by rw [← hwm]; exact M.out.drew)
    obtain ⟨vl, o1', o1''⟩ := M.out.lo
    have o1 := hidD_ o1'
    clear o1' o1''
    refine region_byJF [33, 34, 35, 36, 37, 38, 39] (fun _ => True) (fun _ _ => True) (fun jj v _ => WsR p q n k D jj v) (fun D2 a W => PhJ dpsV 7 (fun W => W = wm) (fun W => W = wm.setRow q (flatC rowOf ((appl F R).set k D)).toArray) D2 a W) (by kernel_rfl) (by kernel_rfl) (by kernel_rfl) (by kernel_rfl) (fun j v w w' hT hr => ?_) (fun j v w hlt hj _ => ?_) trivial ?_ (by rw [hwm]; exact PhJ.start rfl) ?_
    · exact hr
    · rcases j with _ | _ | _ | _ | _ | _ | _ | _ | j
      all_goals first
        | (exfalso; simp [dstOf] at hj; done)
        | trivial
    · refine ⟨fun D2 a W hC hd hsz hf hv hJ hL hW K hK => ?_, fun D2 a W hC hd hsz hf hv hJ hL hW K hK => ?_, fun D2 a W hC hd hsz hf hv hJ hL hW K hK => ?_, fun D2 a W hC hd hsz hf hv hJ hL hW K hK => ?_, fun D2 a W hC hd hsz hf hv hJ hL hW K hK => ?_, fun D2 a W hC hd hsz hf hv hJ hL hW K hK => ?_, fun D2 a W hC hd hsz hf hv hJ hL hW K hK => ?_, fun D2 a W hC hd hsz hf hv hJ hL hW K hK => ?_, trivial⟩
      · clear hsz
        have e1 := slot_of (a := a) (s := 0) (v := .pointer (some ⟨p, 0, none⟩)) (hf 0 (by kernel_rfl))
        refine step_run (wanted_none rfl) (v := .pointer (some ⟨p, 0, none⟩)) (w' := W) ?_ (hK _ _ trivial trivial rfl (hJ.same 0 (by decide) ls0))
        go_simp
      · clear hsz
        have e1 := slot_of (a := a) (s := 33) (v := .pointer (some ⟨p, 0, none⟩)) (hv 0 (by kernel_rfl))
        refine step_run (wanted_none rfl) (v := .pointer (some ⟨p, 0, none⟩)) (w' := W) ?_ (hK _ _ trivial trivial rfl (hJ.same 1 (by decide) (ls1 (hW 0 (by kernel_rfl)))))
        go_simp
      · clear hsz
        have e1 := slot_of (a := a) (s := 34) (v := .pointer (some ⟨p, 0, none⟩)) (hv 1 (by kernel_rfl))
        refine step_run (wanted_none rfl) (v := .pointer (some ⟨p, 0, none⟩)) (w' := W) ?_ (hK _ _ trivial trivial rfl (hJ.same 2 (by decide) (ls1 (hW 1 (by kernel_rfl)))))
        go_simp
      · clear hsz
        have e1 := slot_of (a := a) (s := 35) (v := .pointer (some ⟨p, 0, none⟩)) (hv 2 (by kernel_rfl))
        have hw := hJ.get 3 [6, 7] rfl rfl hL
        subst hw
        have cc := o1.out.cell 0
        simp only [List.getElem?_toArray, List.getElem?_cons_zero, List.getElem?_cons_succ] at cc
        refine step_run (wanted_none rfl) (v := .slice (some ⟨q, 0, none⟩) n n) (w' := W) ?_ (hK _ _ trivial trivial rfl (hJ.same 3 (by decide) (ls1 (hW 2 (by kernel_rfl)))))
        go_simp
      · clear hsz
        have e1 := slot_of (a := a) (s := 1) (v := .int .i64 (k : Int)) (hf 1 (by kernel_rfl))
        refine step_run (wanted_none rfl) (v := .int .i64 (k : Int)) (w' := W) ?_ (hK _ _ trivial trivial rfl (hJ.same 4 (by decide) ls0))
        go_simp
      · clear hsz
        have hw := hJ.get 5 [7] rfl rfl hL
        subst hw
        refine step_load_row rfl 27 (.tmp 5) rfl g0 (eval_of (hf 5 (by kernel_rfl))) 27 (rowOf D) M.out.bg _ Try.underlying27 rfl HI.out ?_
        exact hK _ _ trivial trivial rfl (hJ.same 5 (by decide) ls0)
      · clear hsz
        have e1 := slot_of (a := a) (s := 36) (v := .slice (some ⟨q, 0, none⟩) n n) (hv 3 (by kernel_rfl))
        have e2 := slot_of (a := a) (s := 37) (v := .int .i64 (k : Int)) (hv 4 (by kernel_rfl))
        refine step_run (wanted_none rfl) (v := .pointer (some ⟨q, k * 64, none⟩)) (w' := W) ?_ (hK _ _ trivial trivial rfl (hJ.same 6 (by decide) (ls2 (hW 3 (by kernel_rfl)) (hW 4 (by kernel_rfl)))))
        go_simp
      · clear hsz
        have hw := hJ.old hL
        subst hw
        have bq := M.out.bq
        rw [HC.out] at bq
        refine step_store_mid (wanted_none rfl) 27 (.tmp 39) (.tmp 38) rfl q (k * 64) (eval_of (hv 6 (by kernel_rfl))) (rowOf D) (eval_of (hv 5 (by kernel_rfl))) 27 C bq HI.out HSZ.out (rowOf_ones D) ?_
        rw [HSET.out]
        exact hK undef _ trivial trivial trivial (hJ.store (ls2 (hW 6 (by kernel_rfl)) (hW 5 (by kernel_rfl))) rfl)
    · intro f wy hC5 hv5 L3 hL3 hJ3
      obtain ⟨aE, hJ, hfr⟩ := hJ3
      have e5 := hJ.fin (hL3 7 (by decide))
      subst e5
      have X := Mid.whole HV.out M.out HW1.out HK.out HD.out
      have X1 := hidD_ X
      have cb := dburn_any X.1
      simp only [framed, List.foldl_cons, List.foldl_nil, List.setIfInBounds_toArray, List.set_cons_succ, List.set_cons_zero]
      clear hv5 hC5 hJ hfr hL3 X
      rename_i K hK
      refine hK _ _ ?_
      generalize wm.setRow q (flatC rowOf ((appl F R).set k D)).toArray = wy at *
      go_wp2_with (go_at_call 28; ((with_reducible refine cb.mono ?_); clear cb; rintro e w5 ⟨rfl, y1, y2, y3⟩; have Y1 := hidD_ y1; have Y2 := hidD_ y2; have Y3 := hidD_ y3; clear y1 y2 y3))
      go_ret
      exact ⟨rfl, Y1.out, ((HB1.out.mono HB0.out).trans X1.out.2.1).trans Y2.out, ((UnT.of_below HB1.out).trans X1.out.2.2).trans Y3.out⟩
end
end Go.Proofs.Ytibnfldddpmafaa
