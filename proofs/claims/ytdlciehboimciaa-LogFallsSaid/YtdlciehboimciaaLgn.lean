/-
  slices.Chunk, of bytes, in pieces of sixty-four.
-/
import Derived.Test.YtdlciehboimciaaDE
import Derived.Test.YtdlciehboimciaaLgd
import Derived.Test.YtdlciehboimciaaLA
namespace Go.Proofs.Ytdlciehboimciaa
set_option maxRecDepth 100000
open Go.RowKit Go.Shelf
set_option linter.unusedVariables false
set_option linter.unusedSimpArgs false

attribute [local go_sem] Oper.semAt_some
theorem plain_len {P : Program} {o : Oper} {xs : Array Operand} {ts : Array TypeId} (h : o.op = .call { callee := .builtin .len, args := xs, argTypes := ts }) : PlainOp P o :=
  ⟨fun w ρ => by unfold Oper.about; simp [h, resolve, Target.leads], fun c e => (by rw [h] at e; cases e), fun ρ w => by
    unfold execOp
    simp only [h, resolve, invoke, builtin, Sem.run_bind, Sem.run_pure, Result.andThen_ok]
    generalize Sem.run P (Builtin.len_ _ _ _) w = r
    cases r <;> simp [Result.andThen, okR]⟩
theorem plain_min {P : Program} {o : Oper} {xs : Array Operand} {ts : Array TypeId} (h : o.op = .call { callee := .builtin .min, args := xs, argTypes := ts }) : PlainOp P o :=
  ⟨fun w ρ => by unfold Oper.about; simp [h, resolve, Target.leads], fun c e => (by rw [h] at e; cases e), fun ρ w => by
    unfold execOp
    simp only [h, resolve, invoke, builtin, Sem.run_bind, Sem.run_pure, Result.andThen_ok]
    generalize Sem.run P (Builtin.min_ _ _ _) w = r
    cases r <;> simp [Result.andThen, okR]⟩
/-- A piece's number. -/
abbrev PcV (m : Nat) := { k : Nat // k * 64 < m }
def pcS (b m k : Nat) : Value := .slice (some ⟨b, k * 64, none⟩) (min 64 (m - k * 64)) (min 64 (m - k * 64))
/-- What a round keeps: the two boxes of the iterator's own. -/
def KpC (Bs Bn : Nat) (A B : World) : Prop := A.heap.size ≤ B.heap.size ∧ B.heap[Bs]? = A.heap[Bs]? ∧ B.heap[Bn]? = A.heap[Bn]?
theorem KpC.refl (Bs Bn : Nat) (A : World) : KpC Bs Bn A A := ⟨Nat.le_refl _, rfl, rfl⟩
theorem KpC.trans {Bs Bn : Nat} {A B C : World} (h : KpC Bs Bn A B) (k : KpC Bs Bn B C) : KpC Bs Bn A C := ⟨Nat.le_trans h.1 k.1, k.2.1.trans h.2.1, k.2.2.trans h.2.2⟩
theorem slice_part (b m cap i0 e0 : Nat) (he : 0 < e0) (h1 : i0 + e0 ≤ cap) (W : World) :
    (Instr.slice 39 (.slice (some ⟨b, 0, none⟩) m cap) (some (.int .i64 (i0 : Int))) (some (.int .i64 ((i0 + e0 : Nat) : Int))) (some (.int .i64 ((i0 + e0 : Nat) : Int)))).run Try.prog W = .ok (.slice (some ⟨b, i0, none⟩) e0 e0) W := by
  have he2 : Try.prog.elem 39 = 5 := by kernel_rfl
  rw [run_slice_lhm W 39 (some ⟨b, 0, none⟩) m cap (by rw [he2]; exact Try.underlying39) .i64 .i64 .i64 i0 ((i0 + e0 : Nat) : Int) ((i0 + e0 : Nat) : Int) (by omega) (by omega) (by omega) (by omega)]
  have hs : (sizeOf (Try.prog.elem 39)).run Try.prog W = .ok 1 W := by
    rw [he2]
    obtain ⟨i, hi, hz, hsize, hby⟩ := info_parts info8
    simp [sizeOf, typeInfo, hi, hsize]
  rw [hs]
  have e1 : i0 + e0 - i0 = e0 := by omega
  simp only [Result.andThen, sliced, Int.toNat_natCast, Nat.mul_one, e1]
  rw [if_neg (by omega)]
  simp [Addr.add]
  try (intro h; exact h.symm)
def ChR (m cap b i0 r0 e0 : Nat) : Nat → Value → Prop
  | 0, v => v = .int .i64 64
  | 1, v => v = .slice (some ⟨b, 0, none⟩) m cap
  | 2, v => v = .int .i64 (i0 : Int)
  | 3, v => v = .slice (some ⟨b, i0, none⟩) r0 (cap - i0)
  | 4, v => v = .int .i64 (r0 : Int)
  | 5, v => v = .int .i64 (e0 : Int)
  | 6, v => v = .int .i64 (e0 : Int)
  | _, _ => True
set_option maxRecDepth 100000 in
set_option maxHeartbeats 2000000 in
theorem chunk1_in (F : Fence) (n : Nat) (h7 : F.fn 85) (hro : F.round = none) (hn : 1 ≤ n) (l Bs Bn b m cap : Nat) (A : Option Addr) (hA : 0 < m → A = some ⟨b, 0, none⟩) (hm : m ≤ 1000000) (hc1 : m ≤ cap) (hc2 : cap ≤ 9223372036854775807) (J Jx : List (PcV m) → World → Prop)
    (hJab : ∀ pre (w : World), J pre w → J pre { w with drawn := w.drawn + 1 })
    (hY : ∀ pre x W, J pre W → pre.length < cntP m → YieldAt F (n - 1) Try.prog l #[pcS b m x.1] W fun e W' =>
      (e = .returned (.bool true) ∧ J (pre ++ [x]) W' ∧ KpC Bs Bn W W') ∨ (e = .returned (.bool false) ∧ Jx (pre ++ [x]) W'))
    (W : World) (hBs : W.cell? ⟨Bs, 0, none⟩ = some (.slice A m cap)) (hBn : W.cell? ⟨Bn, 0, none⟩ = some (.int .i64 64)) (h0 : J [] W) :
    CallsIn F n Try.prog 85 #[.func (.yield l) #[] #[], .pointer (some ⟨Bs, 0, none⟩), .pointer (some ⟨Bn, 0, none⟩)] W fun e W' => (∃ v, e = .returned v) ∧
      ((∃ ys, ys.map (·.1) = List.range (cntP m) ∧ J ys W') ∨ (∃ pre : List (PcV m), (pre.map (·.1) = List.range pre.length ∧ pre.length ≤ cntP m) ∧ Jx pre W')) := by
  refine callsIn_of_wp Try.func85 rfl h7 ?_ hro
  simp only [Try.ntmps85, List.size_toArray, List.length_cons, List.length_nil, Nat.reduceAdd, Nat.reduceSub, Array.replicate_succ, Array.replicate_zero, List.push_toArray, List.append_toArray, List.nil_append, List.cons_append]
  gi_wp2
  gi_loopw [4] (fun i wr => ∃ (j i0 : Nat) (pre : List (PcV m)), j ≤ cntP m ∧ Hid (i0 = j * 64) ∧ i = .int .i64 (i0 : Int) ∧ Hid (pre.map (·.1) = List.range j) ∧ J pre wr ∧ KpC Bs Bn W wr)
    (fun i _ => m + 64 - (intOf i).toNat)
  case atStart => exact ⟨0, 0, [], Nat.zero_le _, hidD_ rfl, rfl, hidD_ (by simp), h0, KpC.refl _ _ _⟩
  case round =>
    obtain ⟨j, i0, pre, hj, hi0, rfl, hpre, hJs, hkp⟩ := hrel
    have hcs : wr.cell? ⟨Bs, 0, none⟩ = some (.slice A m cap) := (World.cell?_of_block hkp.2.1).trans hBs
    have hcn : wr.cell? ⟨Bn, 0, none⟩ = some (.int .i64 64) := (World.cell?_of_block hkp.2.2).trans hBn
    by_cases hlt : i0 < m
    · have d1 : decide ((i0 : Int) < (m : Int)) = true := decide_eq_true (by omega)
      -- THE REGION
      obtain ⟨e0, he0⟩ : ∃ e, min 64 (m - i0) = e := ⟨_, rfl⟩
      obtain rfl := hA (by omega)
      have s2 := fun W => slice_from (some ⟨b, 0, none⟩) m cap i0 (by omega) W
      have es : (if cap = i0 then some ⟨b, 0, none⟩ else (some (⟨b, 0, none⟩ : Addr)).map (·.add i0)) = some ⟨b, i0, none⟩ := by
        rw [if_neg (by omega)]
        simp [Addr.add]
        try (intro h; exact h.symm)
      rw [es] at s2
      have hmin := fun W ts t => run_minI 64 ((m - i0 : Nat) : Int) (e0 : Int) (by omega) W ts t
      have hln := hidD_ (show m - i0 ≤ 9223372036854775807 by omega)
      gi_wp2
      rename_i K9 hK9
      have HCS := hidD_ hcs
      have HCN := hidD_ hcn
      obtain ⟨r0, hr0⟩ : ∃ r, m - i0 = r := ⟨_, rfl⟩
      rw [hr0] at s2 hmin he0
      clear hcs hcn es
      refine region_byJFIn [13, 14, 15, 16, 17, 18, 5] (fun _ => True) (fun _ _ => True) (fun jj v _ => ChR m cap b i0 r0 e0 jj v) (fun _ _ W3 => W3 = { wr with drawn := wr.drawn + 1 }) ⟨plain_load rfl, plain_load rfl, plain_move rfl, plain_slice rfl, plain_len rfl, plain_min rfl, plain_assign rfl, trivial⟩ (fun h => by obtain ⟨_, _, h⟩ := h; first | exact h | (simp (config := { zetaDelta := true }) [Exit.then, Exit.inBlock, bodyPost] at h)) (by kernel_rfl) (by kernel_rfl) (by kernel_rfl) (by kernel_rfl) (fun j v w w' hT hr => ?_) (fun j v w hlt hj _ => ?_) trivial ?_ rfl ?_
      · exact hr
      · rcases j with _ | _ | _ | _ | _ | _ | _ | j
        all_goals first
          | (exfalso; simp [dstOf] at hj; done)
          | trivial
      · refine ⟨fun D2 a W3 hC hd hsz hf hv hJ hL hW K hK => ?_, fun D2 a W3 hC hd hsz hf hv hJ hL hW K hK => ?_, fun D2 a W3 hC hd hsz hf hv hJ hL hW K hK => ?_, fun D2 a W3 hC hd hsz hf hv hJ hL hW K hK => ?_, fun D2 a W3 hC hd hsz hf hv hJ hL hW K hK => ?_, fun D2 a W3 hC hd hsz hf hv hJ hL hW K hK => ?_, fun D2 a W3 hC hd hsz hf hv hJ hL hW K hK => ?_, trivial⟩
        · clear hsz
          have e1 := slot_of (a := a) (s := 2) (v := .pointer (some ⟨Bn, 0, none⟩)) (hf 2 (by kernel_rfl))
          have hc9 : W3.cell? ⟨Bn, 0, none⟩ = some (.int .i64 64) := by subst hJ; exact HCN.out
          refine step_run (wanted_none rfl) (v := .int .i64 64) (w' := W3) ?_ (hK _ _ trivial trivial rfl hJ)
          clear hJ
          go_simp
        · clear hsz
          have e1 := slot_of (a := a) (s := 1) (v := .pointer (some ⟨Bs, 0, none⟩)) (hf 1 (by kernel_rfl))
          have hc9 : W3.cell? ⟨Bs, 0, none⟩ = some (.slice (some ⟨b, 0, none⟩) m cap) := by subst hJ; exact HCS.out
          refine step_run (wanted_none rfl) (v := .slice (some ⟨b, 0, none⟩) m cap) (w' := W3) ?_ (hK _ _ trivial trivial rfl hJ)
          clear hJ
          go_simp
        · clear hsz
          have e1 := slot_of (a := a) (s := 4) (v := .int .i64 (i0 : Int)) (hf 4 (by kernel_rfl))
          refine step_run (wanted_none rfl) (v := .int .i64 (i0 : Int)) (w' := W3) ?_ (hK _ _ trivial trivial rfl hJ)
          go_simp
        · clear hsz
          have e1 := slot_of (a := a) (s := 14) (v := .slice (some ⟨b, 0, none⟩) m cap) (hv 1 (by kernel_rfl))
          have e2 := slot_of (a := a) (s := 15) (v := .int .i64 (i0 : Int)) (hv 2 (by kernel_rfl))
          refine step_run (wanted_none rfl) (v := .slice (some ⟨b, i0, none⟩) r0 (cap - i0)) (w' := W3) ?_ (hK _ _ trivial trivial rfl hJ)
          go_simp
        · clear hsz
          have e1 := slot_of (a := a) (s := 16) (v := .slice (some ⟨b, i0, none⟩) r0 (cap - i0)) (hv 3 (by kernel_rfl))
          refine step_run (wanted_none rfl) (v := .int .i64 (r0 : Int)) (w' := W3) ?_ (hK _ _ trivial trivial rfl hJ)
          go_simp
        · clear hsz
          have e1 := slot_of (a := a) (s := 13) (v := .int .i64 64) (hv 0 (by kernel_rfl))
          have e2 := slot_of (a := a) (s := 17) (v := .int .i64 (r0 : Int)) (hv 4 (by kernel_rfl))
          refine step_run (wanted_none rfl) (v := .int .i64 (e0 : Int)) (w' := W3) ?_ (hK _ _ trivial trivial rfl hJ)
          go_simp
        · clear hsz
          have e1 := slot_of (a := a) (s := 18) (v := .int .i64 (e0 : Int)) (hv 5 (by kernel_rfl))
          refine step_run (wanted_none rfl) (v := .int .i64 (e0 : Int)) (w' := W3) ?_ (hK _ _ trivial trivial rfl hJ)
          go_simp
      · intro f w3 _ hv5 _ _ hJ3
        obtain ⟨_, hJ, _⟩ := hJ3
        obtain ⟨wd, hwd⟩ : ∃ W4, { wr with drawn := wr.drawn + 1 } = W4 := ⟨_, rfl⟩
        rw [hwd] at hJ
        subst hJ
        have e5 : f 5 = .int .i64 (e0 : Int) := hv5 6 (by decide)
        have hJd : J pre w3 := by rw [← hwd]; exact hJab pre wr hJs
        have hkd : KpC Bs Bn W w3 := by rw [← hwd]; exact hkp
        have hcs9 : w3.cell? ⟨Bs, 0, none⟩ = some (.slice (some ⟨b, 0, none⟩) m cap) := by rw [← hwd]; exact HCS.out
        have hj2 : j * 64 < m := by have := hi0.out; omega
        have hlen : pre.length = j := by have := congrArg List.length hpre.out; simpa using this
        obtain ⟨fn, tmps, assign, body, hy, hR⟩ := hY pre ⟨j, hj2⟩ w3 hJd (by unfold cntP; omega)
        have hpc : pcS b m j = .slice (some ⟨b, i0, none⟩) e0 e0 := by unfold pcS; rw [← hi0.out, hr0, he0]
        dsimp only at hy
        rw [hpc] at hy
        obtain ⟨ie, hie⟩ : ∃ x, i0 + e0 = x := ⟨_, rfl⟩
        have s3 := fun W => slice_part b m cap i0 e0 (by omega) (by omega) W
        rw [hie] at s3
        have hw3 : IntKind.i64.wrap ((i0 : Int) + (e0 : Int)) = (ie : Int) := by rw [IntWalk.i64_in _ (by omega)]; omega
        simp only [framed, List.foldl_cons, List.foldl_nil, List.setIfInBounds_toArray, List.set_cons_succ, List.set_cons_zero]
        rw [e5]
        have HIE := hidD_ hie
        have HKD := hidD_ hkd
        have HWD := hidD_ hwd
        have HE0 := hidD_ he0
        have HR0 := hidD_ hr0
        clear e5 hv5 hJd hkd hpc hlen hie hwd he0 hr0
        refine hK9 _ _ ?_
        gi_wp2
        refine hR.mono ?_
        rintro e W3 (⟨rfl, hJ3, hk3⟩ | ⟨rfl, hJx3⟩)
        · have hcn3 : W3.cell? ⟨Bn, 0, none⟩ = some (.int .i64 64) := (World.cell?_of_block (HKD.out.trans hk3).2.2).trans hBn
          obtain ⟨i1, hi1⟩ : ∃ x, i0 + 64 = x := ⟨_, rfl⟩
          have hw4 : IntKind.i64.wrap ((i0 : Int) + 64) = (i1 : Int) := by rw [IntWalk.i64_in _ (by omega)]; omega
          have HI1 := hidD_ hi1
          clear hi1
          gi_wp2
          go_roundw
          case rel => exact ⟨j + 1, i1, pre ++ [⟨j, hj2⟩], by unfold cntP; omega, hidD_ (by have := hi0.out; have := HI1.out; omega), rfl, hidD_ (by rw [List.map_append, hpre.out, List.range_succ]; rfl), hJ3, HKD.out.trans hk3⟩
          case measure => simp [intOf]; have := HI1.out; omega
        · gi_wp2
          refine bodyPost_ret (results_none rfl _ _ _) rfl ?_
          have hpl : pre.length = j := by have := congrArg List.length hpre.out; simpa using this
          have hp1 : (pre ++ [(⟨j, hj2⟩ : PcV m)]).map (·.1) = List.range (pre ++ [(⟨j, hj2⟩ : PcV m)]).length := by
            rw [List.map_append, hpre.out, List.length_append, hpl]
            exact List.range_succ.symm
          have hp2 : (pre ++ [(⟨j, hj2⟩ : PcV m)]).length ≤ cntP m := by
            rw [List.length_append, hpl]
            simp only [List.length_cons, List.length_nil]
            unfold cntP
            omega
          exact ⟨⟨_, rfl⟩, .inr ⟨_, ⟨hp1, hp2⟩, hJx3⟩⟩
    · have d1 : decide ((i0 : Int) < (m : Int)) = false := decide_eq_false (by omega)
      gi_wp2
      go_end0
      have : j = cntP m := by have := hi0.out; unfold cntP at hj ⊢; omega
      subst this
      exact ⟨⟨_, rfl⟩, .inl ⟨pre, hpre.out, hJs⟩⟩
set_option maxHeartbeats 1000000 in
theorem chunk_in (F : Fence) (n : Nat) (h5 : F.fn 76) (hro : F.round = none) (A : Option Addr) (m cap : Nat) (w : World) :
    CallsIn F n Try.prog 76 #[.slice A m cap, .int .i64 64] w fun e w' => e = .returned (.func (.func 85) #[] #[.pointer (some ⟨w.heap.size, 0, none⟩), .pointer (some ⟨w.heap.size + 1, 0, none⟩)]) ∧ w' = (w.alloc (.cells #[.slice A m cap] 39)).alloc (.cells #[.int .i64 64] 3) := by
  refine callsIn_of_wp Try.func76 rfl h5 ?_ hro
  simp only [Try.ntmps76, List.size_toArray, List.length_cons, List.length_nil, Nat.reduceAdd, Nat.reduceSub, Array.replicate_succ, Array.replicate_zero, List.push_toArray, List.append_toArray, List.nil_append, List.cons_append]
  have hc := (Bk.new (w.alloc (.cells #[.slice A m cap] 39)) 3 #[.int .i64 64]).cell 0
  simp only [List.getElem?_toArray, List.getElem?_cons_zero, World.size_alloc] at hc
  gi_wp2
  go_ret
  exact ⟨by simp, rfl⟩
/-- The value that Chunk gives. -/
theorem chunk_stops (F : Fence) (n : Nat) (h7 : F.fn 85) (hro : F.round = none) (hn : 1 ≤ n) (Bs Bn b m cap : Nat) (A : Option Addr) (hA : 0 < m → A = some ⟨b, 0, none⟩) (hm : m ≤ 1000000) (hc1 : m ≤ cap) (hc2 : cap ≤ 9223372036854775807) (w : World) (hB : Bs < w.heap.size) (hN : Bn < w.heap.size)
    (hBs : w.cell? ⟨Bs, 0, none⟩ = some (.slice A m cap)) (hBn : w.cell? ⟨Bn, 0, none⟩ = some (.int .i64 64)) :
    SeqStopsK F n Try.prog 85 #[.pointer (some ⟨Bs, 0, none⟩), .pointer (some ⟨Bn, 0, none⟩)] (fun x : PcV m => #[pcS b m x.1]) (KpC Bs Bn) (fun ys => ys.map (·.1) = List.range (cntP m)) (fun ys => ys.map (·.1) = List.range ys.length ∧ ys.length ≤ cntP m) (cntP m) w := fun l J Jx W hW hJ _ hY h0 =>
  chunk1_in F n h7 hro hn l Bs Bn b m cap A hA hm hc1 hc2 J Jx (fun pre w1 h1 => hJ pre w1 _ none h1 ⟨rfl, rfl, rfl, Nat.le_refl _, fun _ _ _ => rfl⟩ (fun r e => by cases e)) hY W ((hW.cell (p := ⟨Bs, 0, none⟩) hB).trans hBs) ((hW.cell (p := ⟨Bn, 0, none⟩) hN).trans hBn) h0
end Go.Proofs.Ytdlciehboimciaa
