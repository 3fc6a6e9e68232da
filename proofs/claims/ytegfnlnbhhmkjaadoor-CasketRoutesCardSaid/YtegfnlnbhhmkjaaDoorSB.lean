/-
  Merged: Ssc Ssd Sse.
-/
import Derived.Test.YtegfnlnbhhmkjaaDoorSA
import Derived.Test.YtegfnlnbhhmkjaaDoorUn
import Derived.Test.YtegfnlnbhhmkjaaDoorFj
namespace Go.Proofs.YtegfnlnbhhmkjaaDoor
set_option maxRecDepth 100000
open Go.ChangeShapes Go.WideShapes Go.ChangeAt Go.RowKit Go.Sort Go.Shelf Go.Lib
set_option linter.unusedVariables false
set_option linter.unusedSectionVars false
set_option linter.unusedSimpArgs false

theorem hidss_ {p : Prop} (h : p) : Hid p := h
theorem aggS (w : World) : (isAgg 61).run Tryd.prog w = .ok true w := by kernel_rfl
theorem sizS (w : World) : (Go.sizeOf 61).run Tryd.prog w = .ok 2 w := by kernel_rfl

theorem step_store_cells {P : Program} {ops : Array Oper} {o : Oper} {a : Act} {w : World} {K : Act → World → Prop} {Q : Exit → Act → World → Prop} {E : Prop} (hw : Region.wanted o (yielded ops a.tmps) = true) (ty : TypeId) (x y : Operand) (ho : o.op = .store ty x y) (g off : Nat) (hx : a.eval x = .pointer (some ⟨g, off, none⟩)) (vs : Array Value) (hy : a.eval y = .agg vs)
    (hi : (P.info? ty).map (·.size) = some vs.size) (w' : World) (hrun : Sem.run P (storeCells ⟨g, off, none⟩ vs.toList 0) w = .ok () w')
    (hk : K (a.put o.dst undef) w') : if Region.wanted o (yielded ops a.tmps) = true then Oper.wp P o a w K Q else E := by
  refine step_skip hw (w' := w') ?_ hk
  obtain ⟨i, hi1, hi2⟩ := Option.map_eq_some_iff.1 hi
  have h : (storeVar ty ⟨g, off, none⟩ (.agg vs)).run P w = .ok () w' := by
    simp [storeVar, Go.sizeOf, typeInfo, hi1, hi2, Value.cells, Sem.run_bind, hrun]
  unfold execOp
  simp only [ho, hx, hy, Instr.storeAt, Instr.sureAddr, Sem.run_bind, Sem.run_pure, Result.andThen_ok, h]
section
variable {α : Type} [Inhabited α] {enc : α → List Value} {w0 W W1 : World} {blk off : Nat} {d0 d dk : Array α} {x y L1 L2 s1 s2 : Nat} {D : Nat → Bool}
/-- An exchange under way: nothing stored; the first store done; both. L1, L2: the loads, s1, s2: the stores. -/
def ExJ (enc : α → List Value) (w0 : World) (blk off : Nat) (dk : Array α) (x y L1 L2 s1 s2 : Nat) (D : Nat → Bool) (W : World) : Prop :=
  (D s1 = false ∧ D s2 = false ∧ SWK enc 2 w0 blk off dk W) ∨ (D s1 = true ∧ D s2 = false ∧ D L1 = true ∧ D L2 = true ∧ ∃ W1, SWK enc 2 w0 blk off dk W1 ∧ W = W1.setCells blk (off + x * 2) (enc dk[y]!)) ∨ (D s1 = true ∧ D s2 = true ∧ D L1 = true ∧ D L2 = true ∧ SWK enc 2 w0 blk off (swp dk x y) W)
theorem ExJ.same (h : ExJ enc w0 blk off dk x y L1 L2 s1 s2 D W) (i : Nat) (h1 : i ≠ s1) (h2 : i ≠ s2) : ExJ enc w0 blk off dk x y L1 L2 s1 s2 (fun j => decide (j = i) || D j) W := by
  rcases h with ⟨a, b, c⟩ | ⟨a, b, c, d, e⟩ | ⟨a, b, c, d, e⟩
  · exact .inl ⟨by simp [a, Ne.symm h1], by simp [b, Ne.symm h2], c⟩
  · exact .inr (.inl ⟨by simp [a], by simp [b, Ne.symm h2], by simp [c], by simp [d], e⟩)
  · exact .inr (.inr ⟨by simp [a], by simp [b], by simp [c], by simp [d], e⟩)
theorem ExJ.early (h : ExJ enc w0 blk off dk x y L1 L2 s1 s2 D W) {i : Nat} (hi : i = L1 ∨ i = L2) (hL : D i = false) : SWK enc 2 w0 blk off dk W := by
  rcases h with ⟨a, b, c⟩ | ⟨a, b, c, d, e⟩ | ⟨a, b, c, d, e⟩
  · exact c
  · rcases hi with rfl | rfl
    · rw [c] at hL; cases hL
    · rw [d] at hL; cases hL
  · rcases hi with rfl | rfl
    · rw [c] at hL; cases hL
    · rw [d] at hL; cases hL
theorem ExJ.at1 (h : ExJ enc w0 blk off dk x y L1 L2 s1 s2 D W) (hL : D s1 = false) (h1 : D L1 = true) (h2 : D L2 = true) : SWK enc 2 w0 blk off dk W := by
  rcases h with ⟨a, b, c⟩ | ⟨a, b, c, d, e⟩ | ⟨a, b, c, d, e⟩
  · exact c
  · rw [a] at hL; cases hL
  · rw [a] at hL; cases hL
theorem ExJ.no2 (h : ExJ enc w0 blk off dk x y L1 L2 s1 s2 D W) (hL : D s1 = false) : D s2 = false := by
  rcases h with ⟨a, b, c⟩ | ⟨a, b, c, d, e⟩ | ⟨a, b, c, d, e⟩
  · exact b
  · rw [a] at hL; cases hL
  · rw [a] at hL; cases hL
theorem ExJ.one (hS : SWK enc 2 w0 blk off dk W) (h1 : D L1 = true) (h2 : D L2 = true) (hne : s2 ≠ s1) (h3 : D s2 = false) : ExJ enc w0 blk off dk x y L1 L2 s1 s2 (fun j => decide (j = s1) || D j) (W.setCells blk (off + x * 2) (enc dk[y]!)) :=
  .inr (.inl ⟨by simp, by simp [hne, h3], by simp [h1], by simp [h2], W, hS, rfl⟩)
theorem ExJ.at2 (h : ExJ enc w0 blk off dk x y L1 L2 s1 s2 D W) (hL : D s2 = false) (h1 : D s1 = true) : ∃ W1, SWK enc 2 w0 blk off dk W1 ∧ W = W1.setCells blk (off + x * 2) (enc dk[y]!) := by
  rcases h with ⟨a, b, c⟩ | ⟨a, b, c, d, e⟩ | ⟨a, b, c, d, e⟩
  · rw [a] at h1; cases h1
  · exact e
  · rw [b] at hL; cases hL
theorem ExJ.two (h : ExJ enc w0 blk off dk x y L1 L2 s1 s2 D W) (hS : SWK enc 2 w0 blk off (swp dk x y) W1) (h1 : D s1 = true) (hne : s1 ≠ s2) : ExJ enc w0 blk off dk x y L1 L2 s1 s2 (fun j => decide (j = s2) || D j) W1 := by
  rcases h with ⟨a, b, c⟩ | ⟨a, b, c, d, e⟩ | ⟨a, b, c, d, e⟩
  · rw [a] at h1; cases h1
  · exact .inr (.inr ⟨by simp [a], by simp, by simp [c], by simp [d], hS⟩)
  · exact .inr (.inr ⟨by simp [a], by simp, by simp [c], by simp [d], hS⟩)
theorem ExJ.end_ (h : ExJ enc w0 blk off dk x y L1 L2 s1 s2 D W) (h2 : D s2 = true) : SWK enc 2 w0 blk off (swp dk x y) W := by
  rcases h with ⟨a, b, c⟩ | ⟨a, b, c, d, e⟩ | ⟨a, b, c, d, e⟩
  · rw [b] at h2; cases h2
  · rw [b] at h2; cases h2
  · exact e
/-- The cells of one element. -/
theorem swk_cells (h : SWK enc 2 w0 blk off dk W) (R : RowK enc 2 w0 blk off d0) (hs : dk.size = d0.size) (i : Nat) (hi : i < dk.size) : ∀ j, j < (enc dk[i]!).toArray.size → W.cell? ⟨blk, off + i * 2 + j, none⟩ = (enc dk[i]!).toArray[j]? := fun j hj => by
  have hc := HoldsK.cells (h.holds R.hblk R.hH hs) R.hk hi j
  have hj2 : j < (enc dk[i]!).length := by simpa using hj
  have h2 := hc _ (List.getElem?_eq_getElem hj2)
  rw [Addr.add_lit] at h2
  rw [h2]
  simp [hj2]
theorem swk_st1 (R : RowK enc 2 w0 blk off d0) (hs : dk.size = d0.size) (i : Nat) (hi : i < dk.size) (v : α) (W : World) (h : SWK enc 2 w0 blk off dk W) : Sem.run Tryd.prog (storeCells ⟨blk, off + i * 2, none⟩ (enc v).toArray.toList 0) W = .ok () (W.setCells blk (off + i * 2) (enc v)) :=
  stores_of_holds Tryd.prog (h.holds R.hblk R.hH hs) (i * 2) (enc v) (by rw [R.hk, size_flatK]; exact rowK_bnd dk 2 i hi) (R.h1 _)
theorem swk_st2 (R : RowK enc 2 w0 blk off d0) (hs : dk.size = d0.size) (i j : Nat) (hi : i < dk.size) (hj : j < dk.size) (u v : α) (W : World) (h : SWK enc 2 w0 blk off dk W) : Sem.run Tryd.prog (storeCells ⟨blk, off + j * 2, none⟩ (enc u).toArray.toList 0) (W.setCells blk (off + i * 2) (enc v)) = .ok () ((W.setCells blk (off + i * 2) (enc v)).setCells blk (off + j * 2) (enc u)) :=
  stores_of_holds Tryd.prog (holds_setCells_c (h.holds R.hblk R.hH hs) (i * 2) _ (by rw [R.hk, size_flatK]; exact rowK_bnd dk 2 i hi)) (j * 2) (enc u) (by rw [R.hk, size_setMany, size_flatK]; exact rowK_bnd dk 2 j hj) (R.h1 _)
end
theorem infoSib : (Tryd.prog.info? 61).map (·.size) = some 2 := by kernel_rfl

def ExR87_3 (blk off z cap a b j x y : Nat) (ca cb : Array Value) : Nat → Value → World → Prop
  | 0, v, _ => v = .slice (some ⟨blk, off, none⟩) z cap
  | 1, v, _ => v = .int .i64 (a : Int)
  | 2, v, _ => v = .int .i64 (j : Int)
  | 3, v, _ => v = .int .i64 (x : Int)
  | 4, v, _ => v = .slice (some ⟨blk, off, none⟩) z cap
  | 5, v, _ => v = .int .i64 (b : Int)
  | 6, v, _ => v = .int .i64 (j : Int)
  | 7, v, _ => v = .int .i64 (y : Int)
  | 8, v, _ => v = .slice (some ⟨blk, off, none⟩) z cap
  | 9, v, _ => v = .int .i64 (b : Int)
  | 10, v, _ => v = .int .i64 (j : Int)
  | 11, v, _ => v = .int .i64 (y : Int)
  | 12, v, _ => v = .pointer (some ⟨blk, off + y * 2, none⟩)
  | 13, v, _ => v = .agg cb
  | 14, v, _ => v = .slice (some ⟨blk, off, none⟩) z cap
  | 15, v, _ => v = .int .i64 (a : Int)
  | 16, v, _ => v = .int .i64 (j : Int)
  | 17, v, _ => v = .int .i64 (x : Int)
  | 18, v, _ => v = .pointer (some ⟨blk, off + x * 2, none⟩)
  | 19, v, _ => v = .agg ca
  | 20, v, _ => v = .pointer (some ⟨blk, off + x * 2, none⟩)
  | 22, v, _ => v = .pointer (some ⟨blk, off + y * 2, none⟩)
  | _, _, _ => True
theorem ExR87_3.any {blk off z cap a b j x y : Nat} {ca cb : Array Value} {q : Nat} {v : Value} {W W' : World} (hh : ExR87_3 blk off z cap a b j x y ca cb q v W) : ExR87_3 blk off z cap a b j x y ca cb q v W' := by
  unfold ExR87_3 at hh ⊢
  split at hh <;> first | exact hh | trivial
section
variable {α : Type} [Inhabited α] {enc : α → List Value} {w0 W : World} {blk off : Nat} {d0 d : Array α}
set_option maxRecDepth 1000000 in
set_option maxHeartbeats 4000000 in
theorem swapRange_any (R : RowK enc 2 w0 blk off d0) (h : SWK enc 2 w0 blk off d W) (hs : d.size = d0.size) (hsz : d.size < 4611686018427387904) (P U M V S : List α) (a b n cap : Nat)
    (hL : d.toList = P ++ U ++ M ++ V ++ S) (hU : U.length = n) (hV : V.length = n) (ha : a = P.length) (hb : b = P.length + n + M.length) (FV : Value) :
    Calls Tryd.prog 86 #[.slice (some ⟨blk, off, none⟩) d.size cap, .int .i64 a, .int .i64 b, .int .i64 n, FV] W fun e w' =>
      e = .returned (.tuple #[]) ∧ ∃ d', SWK enc 2 w0 blk off d' w' ∧ d'.size = d.size ∧ d'.toList = P ++ V ++ M ++ U ++ S := by
  have hlen : d.size = P.length + n + M.length + n + S.length := by
    have := congrArg List.length hL
    simp only [List.length_append, Array.length_toList] at this
    omega
  obtain ⟨z, hz⟩ : ∃ z, d.size = z := ⟨_, rfl⟩
  have HZ0 := hidss_ (show z = d0.size by omega)
  have HB := hidss_ (show b + n ≤ z ∧ a + n ≤ b by omega)
  have hnz : n ≤ z := by omega
  have hz62 : z < 4611686018427387904 := by omega
  have HR := hidss_ R
  have HS := hidss_ h
  have HU := hidss_ hU
  have HV := hidss_ hV
  have HA := hidss_ ha
  have HBB := hidss_ hb
  have HL := hidss_ (show d.toList = swpL P U M V S 0 by rw [swpL_start]; exact hL)
  have HZ := hidss_ hz
  have mixed : Tryd.prog.follows .mixedOrders = true := by kernel_rfl
  have aE := aggS
  have zE := sizS
  rw [hz]
  clear hlen hL hU hV ha hb h R hs hsz hz
  go_enter Tryd.func86, Tryd.ntmps86
  go_wp2
  go_loopw [10] (fun i wr => ∃ (j : Nat) (dk : Array α), i = .int .i64 j ∧ j ≤ n ∧ Hid (dk.size = z) ∧ Hid (SWK enc 2 w0 blk off dk wr) ∧ Hid (dk.toList = swpL P U M V S j)) (fun i _ => n - (intOf i).toNat)
  case atStart => exact ⟨0, d, rfl, Nat.zero_le _, HZ, HS, HL⟩
  case round =>
    obtain ⟨j, dk, rfl, hj, HZk, HSk, HLk⟩ := hrel
    by_cases hlt : j < n
    · obtain ⟨hsw, h1, h2⟩ := swpL_step (a := a + j) (b := b + j) HU.out HV.out hlt (by rw [HA.out]) (by rw [HBB.out]) HLk.out
      have HSW := hidss_ hsw
      have hsk : dk.size = d0.size := HZk.out.trans HZ0.out
      obtain ⟨x, hx⟩ : ∃ x, a + j = x := ⟨_, rfl⟩
      obtain ⟨y, hy⟩ : ∃ y, b + j = y := ⟨_, rfl⟩
      rw [hx] at h1 HSW
      rw [hy] at h2 HSW
      have HSZ := hidss_ (show (swp dk x y).size = z by rw [size_swp]; exact HZk.out)
      have Cx := hidss_ (fun W (hW : SWK enc 2 w0 blk off dk W) => swk_cells hW HR.out hsk x h1)
      have Cy := hidss_ (fun W (hW : SWK enc 2 w0 blk off dk W) => swk_cells hW HR.out hsk y h2)
      have St1 := hidss_ (fun W hW => swk_st1 HR.out hsk x h1 dk[y]! W hW)
      have St2 := hidss_ (fun W hW => swk_st2 HR.out hsk x y h1 h2 dk[x]! dk[y]! W hW)
      have Sw := hidss_ (fun W (hW : SWK enc 2 w0 blk off dk W) => hW.swap HR.out.hk HR.out.hblk x y h1 h2)
      have Ia := hidss_ (show (Tryd.prog.info? 61).map (·.size) = some (enc dk[x]!).toArray.size by rw [infoSib, List.size_toArray, HR.out.hk])
      have Ib := hidss_ (show (Tryd.prog.info? 61).map (·.size) = some (enc dk[y]!).toArray.size by rw [infoSib, List.size_toArray, HR.out.hk])
      obtain ⟨ca, hca⟩ : ∃ c, (enc dk[x]!).toArray = c := ⟨_, rfl⟩
      obtain ⟨cb, hcb⟩ : ∃ c, (enc dk[y]!).toArray = c := ⟨_, rfl⟩
      rw [hca] at Cx St2 Ia
      rw [hcb] at Cy St1 Ib
      rw [HZk.out] at h1 h2
      have wx : IntKind.i64.wrap ((a : Int) + (j : Int)) = (x : Int) := by rw [IntKind.wrap_i64]; omega
      have wy : IntKind.i64.wrap ((b : Int) + (j : Int)) = (y : Int) := by rw [IntKind.wrap_i64]; omega
      have t0 : (0 : Int) ≤ (j : Int) := by omega
      have tl : (j : Int) < (n : Int) := by omega
      have ta : (x : Int) < (z : Int) := by omega
      have tb : (y : Int) < (z : Int) := by omega
      clear hsk hsw hx hy hca hcb
      have HJJ := hj
      go_upto_region 3 with fail
      rename_i K9 hK9
      refine region_byJF [16, 17, 18, 19, 20, 21, 22, 23, 24, 25, 26, 27, 28, 29, 30, 31, 32, 33, 34, 35, 36, 37] (fun _ => True) (fun _ _ => True) (ExR87_3 blk off z cap a b j x y ca cb) (fun D _ W => ExJ enc w0 blk off dk x y 13 19 21 23 D W) (by kernel_rfl) (by kernel_rfl) (by kernel_rfl) (by kernel_rfl) (fun j v w w' hT hr => hr.any) (fun j v w hlt hj _ => ?_) trivial ?_ ?_ ?_
      · rcases j with _ | _ | _ | _ | _ | _ | _ | _ | _ | _ | _ | _ | _ | _ | _ | _ | _ | _ | _ | _ | _ | _ | _ | _ | j
        all_goals first
          | (exfalso; simp [dstOf] at hj; done)
          | trivial
      · refine ⟨fun D a9 W hC hd hsz hf hv hJ hL hW K9 hK => ?_, fun D a9 W hC hd hsz hf hv hJ hL hW K9 hK => ?_, fun D a9 W hC hd hsz hf hv hJ hL hW K9 hK => ?_, fun D a9 W hC hd hsz hf hv hJ hL hW K9 hK => ?_, fun D a9 W hC hd hsz hf hv hJ hL hW K9 hK => ?_, fun D a9 W hC hd hsz hf hv hJ hL hW K9 hK => ?_, fun D a9 W hC hd hsz hf hv hJ hL hW K9 hK => ?_, fun D a9 W hC hd hsz hf hv hJ hL hW K9 hK => ?_, fun D a9 W hC hd hsz hf hv hJ hL hW K9 hK => ?_, fun D a9 W hC hd hsz hf hv hJ hL hW K9 hK => ?_, fun D a9 W hC hd hsz hf hv hJ hL hW K9 hK => ?_, fun D a9 W hC hd hsz hf hv hJ hL hW K9 hK => ?_, fun D a9 W hC hd hsz hf hv hJ hL hW K9 hK => ?_, fun D a9 W hC hd hsz hf hv hJ hL hW K9 hK => ?_, fun D a9 W hC hd hsz hf hv hJ hL hW K9 hK => ?_, fun D a9 W hC hd hsz hf hv hJ hL hW K9 hK => ?_, fun D a9 W hC hd hsz hf hv hJ hL hW K9 hK => ?_, fun D a9 W hC hd hsz hf hv hJ hL hW K9 hK => ?_, fun D a9 W hC hd hsz hf hv hJ hL hW K9 hK => ?_, fun D a9 W hC hd hsz hf hv hJ hL hW K9 hK => ?_, fun D a9 W hC hd hsz hf hv hJ hL hW K9 hK => ?_, fun D a9 W hC hd hsz hf hv hJ hL hW K9 hK => ?_, fun D a9 W hC hd hsz hf hv hJ hL hW K9 hK => ?_, fun D a9 W hC hd hsz hf hv hJ hL hW K9 hK => ?_, trivial⟩
        · clear hsz
          have e1 := slot_of (a := a9) (s := 0) (v := .slice (some ⟨blk, off, none⟩) z cap) (hf 0 (by kernel_rfl))
          refine step_run (wanted_none rfl) (v := .slice (some ⟨blk, off, none⟩) z cap) (w' := W) ?_ (hK _ _ trivial trivial rfl (hJ.same 0 (by decide) (by decide)))
          go_simp
        · clear hsz
          have e1 := slot_of (a := a9) (s := 1) (v := .int .i64 (a : Int)) (hf 1 (by kernel_rfl))
          refine step_run (wanted_none rfl) (v := .int .i64 (a : Int)) (w' := W) ?_ (hK _ _ trivial trivial rfl (hJ.same 1 (by decide) (by decide)))
          go_simp
        · clear hsz
          have e1 := slot_of (a := a9) (s := 10) (v := .int .i64 (j : Int)) (hf 10 (by kernel_rfl))
          refine step_run (wanted_none rfl) (v := .int .i64 (j : Int)) (w' := W) ?_ (hK _ _ trivial trivial rfl (hJ.same 2 (by decide) (by decide)))
          go_simp
        · clear hsz
          have e1 := slot_of (a := a9) (s := 17) (v := .int .i64 (a : Int)) (hv 1 (by kernel_rfl))
          have e2 := slot_of (a := a9) (s := 18) (v := .int .i64 (j : Int)) (hv 2 (by kernel_rfl))
          refine step_run (wanted_none rfl) (v := .int .i64 (x : Int)) (w' := W) ?_ (hK _ _ trivial trivial rfl (hJ.same 3 (by decide) (by decide)))
          go_simp
        · clear hsz
          have e1 := slot_of (a := a9) (s := 0) (v := .slice (some ⟨blk, off, none⟩) z cap) (hf 0 (by kernel_rfl))
          refine step_run (wanted_none rfl) (v := .slice (some ⟨blk, off, none⟩) z cap) (w' := W) ?_ (hK _ _ trivial trivial rfl (hJ.same 4 (by decide) (by decide)))
          go_simp
        · clear hsz
          have e1 := slot_of (a := a9) (s := 2) (v := .int .i64 (b : Int)) (hf 2 (by kernel_rfl))
          refine step_run (wanted_none rfl) (v := .int .i64 (b : Int)) (w' := W) ?_ (hK _ _ trivial trivial rfl (hJ.same 5 (by decide) (by decide)))
          go_simp
        · clear hsz
          have e1 := slot_of (a := a9) (s := 10) (v := .int .i64 (j : Int)) (hf 10 (by kernel_rfl))
          refine step_run (wanted_none rfl) (v := .int .i64 (j : Int)) (w' := W) ?_ (hK _ _ trivial trivial rfl (hJ.same 6 (by decide) (by decide)))
          go_simp
        · clear hsz
          have e1 := slot_of (a := a9) (s := 21) (v := .int .i64 (b : Int)) (hv 5 (by kernel_rfl))
          have e2 := slot_of (a := a9) (s := 22) (v := .int .i64 (j : Int)) (hv 6 (by kernel_rfl))
          refine step_run (wanted_none rfl) (v := .int .i64 (y : Int)) (w' := W) ?_ (hK _ _ trivial trivial rfl (hJ.same 7 (by decide) (by decide)))
          go_simp
        · clear hsz
          have e1 := slot_of (a := a9) (s := 0) (v := .slice (some ⟨blk, off, none⟩) z cap) (hf 0 (by kernel_rfl))
          refine step_run (wanted_none rfl) (v := .slice (some ⟨blk, off, none⟩) z cap) (w' := W) ?_ (hK _ _ trivial trivial rfl (hJ.same 8 (by decide) (by decide)))
          go_simp
        · clear hsz
          have e1 := slot_of (a := a9) (s := 2) (v := .int .i64 (b : Int)) (hf 2 (by kernel_rfl))
          refine step_run (wanted_none rfl) (v := .int .i64 (b : Int)) (w' := W) ?_ (hK _ _ trivial trivial rfl (hJ.same 9 (by decide) (by decide)))
          go_simp
        · clear hsz
          have e1 := slot_of (a := a9) (s := 10) (v := .int .i64 (j : Int)) (hf 10 (by kernel_rfl))
          refine step_run (wanted_none rfl) (v := .int .i64 (j : Int)) (w' := W) ?_ (hK _ _ trivial trivial rfl (hJ.same 10 (by decide) (by decide)))
          go_simp
        · clear hsz
          have e1 := slot_of (a := a9) (s := 25) (v := .int .i64 (b : Int)) (hv 9 (by kernel_rfl))
          have e2 := slot_of (a := a9) (s := 26) (v := .int .i64 (j : Int)) (hv 10 (by kernel_rfl))
          refine step_run (wanted_none rfl) (v := .int .i64 (y : Int)) (w' := W) ?_ (hK _ _ trivial trivial rfl (hJ.same 11 (by decide) (by decide)))
          go_simp
        · clear hsz
          have e1 := slot_of (a := a9) (s := 24) (v := .slice (some ⟨blk, off, none⟩) z cap) (hv 8 (by kernel_rfl))
          have e2 := slot_of (a := a9) (s := 27) (v := .int .i64 (y : Int)) (hv 11 (by kernel_rfl))
          refine step_run (wanted_none rfl) (v := .pointer (some ⟨blk, off + y * 2, none⟩)) (w' := W) ?_ (hK _ _ trivial trivial rfl (hJ.same 12 (by decide) (by decide)))
          go_simp
        · obtain hS := hJ.early (.inl rfl) hL
          refine step_load_sub (wanted_none rfl) 61 (.tmp 28) rfl blk (off + y * 2) (eval_of (hv 12 (by kernel_rfl))) cb (Cy.out W hS) _ Tryd.underlying61 rfl Ib.out (hK _ _ trivial trivial rfl (hJ.same 13 (by decide) (by decide)))
        · clear hsz
          have e1 := slot_of (a := a9) (s := 0) (v := .slice (some ⟨blk, off, none⟩) z cap) (hf 0 (by kernel_rfl))
          refine step_run (wanted_none rfl) (v := .slice (some ⟨blk, off, none⟩) z cap) (w' := W) ?_ (hK _ _ trivial trivial rfl (hJ.same 14 (by decide) (by decide)))
          go_simp
        · clear hsz
          have e1 := slot_of (a := a9) (s := 1) (v := .int .i64 (a : Int)) (hf 1 (by kernel_rfl))
          refine step_run (wanted_none rfl) (v := .int .i64 (a : Int)) (w' := W) ?_ (hK _ _ trivial trivial rfl (hJ.same 15 (by decide) (by decide)))
          go_simp
        · clear hsz
          have e1 := slot_of (a := a9) (s := 10) (v := .int .i64 (j : Int)) (hf 10 (by kernel_rfl))
          refine step_run (wanted_none rfl) (v := .int .i64 (j : Int)) (w' := W) ?_ (hK _ _ trivial trivial rfl (hJ.same 16 (by decide) (by decide)))
          go_simp
        · clear hsz
          have e1 := slot_of (a := a9) (s := 31) (v := .int .i64 (a : Int)) (hv 15 (by kernel_rfl))
          have e2 := slot_of (a := a9) (s := 32) (v := .int .i64 (j : Int)) (hv 16 (by kernel_rfl))
          refine step_run (wanted_none rfl) (v := .int .i64 (x : Int)) (w' := W) ?_ (hK _ _ trivial trivial rfl (hJ.same 17 (by decide) (by decide)))
          go_simp
        · clear hsz
          have e1 := slot_of (a := a9) (s := 30) (v := .slice (some ⟨blk, off, none⟩) z cap) (hv 14 (by kernel_rfl))
          have e2 := slot_of (a := a9) (s := 33) (v := .int .i64 (x : Int)) (hv 17 (by kernel_rfl))
          refine step_run (wanted_none rfl) (v := .pointer (some ⟨blk, off + x * 2, none⟩)) (w' := W) ?_ (hK _ _ trivial trivial rfl (hJ.same 18 (by decide) (by decide)))
          go_simp
        · obtain hS := hJ.early (.inr rfl) hL
          refine step_load_sub (wanted_none rfl) 61 (.tmp 34) rfl blk (off + x * 2) (eval_of (hv 18 (by kernel_rfl))) ca (Cx.out W hS) _ Tryd.underlying61 rfl Ia.out (hK _ _ trivial trivial rfl (hJ.same 19 (by decide) (by decide)))
        · clear hsz
          have e1 := slot_of (a := a9) (s := 16) (v := .slice (some ⟨blk, off, none⟩) z cap) (hv 0 (by kernel_rfl))
          have e2 := slot_of (a := a9) (s := 19) (v := .int .i64 (x : Int)) (hv 3 (by kernel_rfl))
          refine step_run (wanted_none rfl) (v := .pointer (some ⟨blk, off + x * 2, none⟩)) (w' := W) ?_ (hK _ _ trivial trivial rfl (hJ.same 20 (by decide) (by decide)))
          go_simp
        · obtain hS := hJ.at1 hL (hW 13 (by kernel_rfl)) (hW 19 (by kernel_rfl))
          refine step_store_cells (wanted_none rfl) 61 (.tmp 36) (.tmp 29) rfl blk (off + x * 2) (eval_of (hv 20 (by kernel_rfl))) cb (eval_of (hv 13 (by kernel_rfl))) Ib.out _ (St1.out W hS) (hK _ _ trivial trivial trivial (ExJ.one hS (hW 13 (by kernel_rfl)) (hW 19 (by kernel_rfl)) (by decide) (hJ.no2 hL)))
        · clear hsz
          have e1 := slot_of (a := a9) (s := 20) (v := .slice (some ⟨blk, off, none⟩) z cap) (hv 4 (by kernel_rfl))
          have e2 := slot_of (a := a9) (s := 23) (v := .int .i64 (y : Int)) (hv 7 (by kernel_rfl))
          refine step_run (wanted_none rfl) (v := .pointer (some ⟨blk, off + y * 2, none⟩)) (w' := W) ?_ (hK _ _ trivial trivial rfl (hJ.same 22 (by decide) (by decide)))
          go_simp
        · obtain ⟨W1, hS, rfl⟩ := hJ.at2 hL (hW 21 (by kernel_rfl))
          refine step_store_cells (wanted_none rfl) 61 (.tmp 37) (.tmp 35) rfl blk (off + y * 2) (eval_of (hv 22 (by kernel_rfl))) ca (eval_of (hv 19 (by kernel_rfl))) Ia.out _ (St2.out W1 hS) (hK _ _ trivial trivial trivial (hJ.two (Sw.out W1 hS) (hW 21 (by kernel_rfl)) (by decide)))
      · exact .inl ⟨rfl, rfl, HSk.out.drew⟩
      · intro f wa hCa hva Da hDa hJa
        obtain ⟨aa, hJe, _⟩ := hJa
        have KJ := hidss_ (hJe.end_ (hDa 23 (by decide)))
        simp only [framed, List.foldl_cons, List.foldl_nil, List.setIfInBounds_toArray, List.set_cons_succ, List.set_cons_zero]
        clear hva hDa hJe hCa
        refine hK9 _ _ ?_
        go_wp2
        go_roundw
        case rel => exact ⟨j + 1, _, by go_num, by omega, HSZ, KJ, HSW⟩
        case measure => simp [intOf]; omega
    · have tl : ¬ (j : Int) < (n : Int) := by omega
      have HE := hidss_ (show dk.toList = P ++ V ++ M ++ U ++ S by rw [HLk.out, show j = n by omega, swpL_end P U M V S n HU.out HV.out])
      go_wp2
      go_end0
      exact ⟨rfl, dk, HSk.out, HZk.out, by rw [HE.out]; simp⟩
end
end Go.Proofs.YtegfnlnbhhmkjaaDoor

namespace Go.Proofs.YtegfnlnbhhmkjaaDoor
set_option maxRecDepth 100000
open Go.ChangeShapes Go.WideShapes Go.ChangeAt Go.RowKit Go.Sort Go.Shelf Go.Lib
set_option linter.unusedVariables false
set_option linter.unusedSectionVars false
set_option linter.unusedSimpArgs false

section
variable {α : Type} [Inhabited α] {enc : α → List Value} {w0 W : World} {blk off : Nat} {d0 d : Array α}
/-- Two blocks about m, of i and j elements, still to be turned about: behind that the row is T. -/
def RotJ (m z : Nat) (T : List α) (i j : Nat) (d : Array α) : Prop :=
  ∃ Pre X Y Suf, X.length = i ∧ Y.length = j ∧ 0 < i ∧ 0 < j ∧ Pre.length + i = m ∧ d.toList = Pre ++ X ++ Y ++ Suf ∧ Pre ++ Y ++ X ++ Suf = T ∧ d.size = z
set_option maxRecDepth 1000000 in
set_option maxHeartbeats 4000000 in
theorem rotate_any (R : RowK enc 2 w0 blk off d0) (h : SWK enc 2 w0 blk off d W) (hs : d.size = d0.size) (hsz : d.size < 4611686018427387904) (P U V S : List α) (a m b cap : Nat)
    (hL : d.toList = P ++ U ++ V ++ S) (ha : a = P.length) (hm : m = P.length + U.length) (hb : b = P.length + U.length + V.length) (hU : 0 < U.length) (hV : 0 < V.length) (FV : Value) :
    Calls Tryd.prog 82 #[.slice (some ⟨blk, off, none⟩) d.size cap, .int .i64 a, .int .i64 m, .int .i64 b, FV] W fun e w' =>
      e = .returned (.tuple #[]) ∧ ∃ d', SWK enc 2 w0 blk off d' w' ∧ d'.size = d.size ∧ d'.toList = P ++ V ++ U ++ S := by
  have hlen : d.size = P.length + U.length + V.length + S.length := by
    have := congrArg List.length hL
    simp only [List.length_append, Array.length_toList] at this
    omega
  obtain ⟨z, hz⟩ : ∃ z, d.size = z := ⟨_, rfl⟩
  have HZ0 := hidss_ (show z = d0.size by omega)
  have hz62 : z < 4611686018427387904 := by omega
  have hmz : m ≤ z := by omega
  have hbz : b ≤ z := by omega
  have ham : a ≤ m := by omega
  have hmb : m ≤ b := by omega
  have HR := hidss_ R
  have HS := hidss_ h
  obtain ⟨T, hT⟩ : ∃ T, P ++ V ++ U ++ S = T := ⟨_, rfl⟩
  have HJ := hidss_ (show RotJ m z T U.length V.length d from ⟨P, U, V, S, rfl, rfl, hU, hV, hm.symm, hL, hT, hz⟩)
  have w1 : IntKind.i64.wrap ((m : Int) - (a : Int)) = ((U.length : Nat) : Int) := by rw [IntKind.wrap_i64]; omega
  have w2 : IntKind.i64.wrap ((b : Int) - (m : Int)) = ((V.length : Nat) : Int) := by rw [IntKind.wrap_i64]; omega
  rw [hz, hT]
  obtain ⟨i0, hi0⟩ : ∃ i, U.length = i := ⟨_, rfl⟩
  obtain ⟨j0, hj0⟩ : ∃ j, V.length = j := ⟨_, rfl⟩
  rw [hi0] at HJ w1
  rw [hj0] at HJ w2
  clear hlen hL ha hm hb hU hV h R hs hsz hz hT hi0 hj0
  go_enter Tryd.func82, Tryd.ntmps82
  go_wp2
  clear w1 w2
  go_loopw [10, 11] (fun i j wr => ∃ (x y : Nat) (dk : Array α), i = .int .i64 x ∧ j = .int .i64 y ∧ Hid (SWK enc 2 w0 blk off dk wr) ∧ Hid (RotJ m z T x y dk)) (fun i j _ => (intOf i).toNat + (intOf j).toNat)
  case atStart => exact ⟨i0, j0, d, rfl, rfl, HS, HJ⟩
  case round =>
    obtain ⟨x, y, dk, rfl, rfl, HSk, HJk⟩ := hrel
    obtain ⟨Pre, X, Y, Suf, hX, hY, hx0, hy0, hpm, hdk, hTT, hdz⟩ := HJk.out
    have hlen : dk.size = Pre.length + X.length + Y.length + Suf.length := by
      have := congrArg List.length hdk
      simp only [List.length_append, Array.length_toList] at this
      omega
    have hsk : dk.size = d0.size := hdz.trans HZ0.out
    have hxm : x ≤ m := by omega
    have hym : m + y ≤ z := by omega
    have w3 : IntKind.i64.wrap ((m : Int) - (x : Int)) = ((Pre.length : Nat) : Int) := by rw [IntKind.wrap_i64]; omega
    obtain ⟨p, hp⟩ : ∃ p, Pre.length = p := ⟨_, rfl⟩
    by_cases hne : x = y
    case pos =>
      subst hne
      have cs := swapRange_any HR.out HSk.out hsk (by omega) Pre X [] Y Suf p m x cap (by rw [hdk]; simp) hX hY hp.symm (by simp; omega) FV
      rw [hdz] at cs
      have HT := hidss_ hTT
      have tn : ((x : Int) != (x : Int)) = false := by simp
      rw [hp] at w3
      clear HJk hX hY hpm hdk hTT hdz hlen hsk hp HJ HS
      go_wp2_with (go_at_call 86; ((with_reducible refine cs.mono ?_); clear cs; rintro e w2 ⟨rfl, d', h1, h2, h3⟩; have H1 := hidss_ h1; have H2 := hidss_ h2; have H3 := hidss_ h3; clear h1 h2 h3))
      go_end0
      exact ⟨rfl, d', H1.out, H2.out, by rw [H3.out, ← HT.out]; simp⟩
    case neg =>
      have tn : ((x : Int) != (y : Int)) = true := by simp; omega
      by_cases hgt : y < x
      · have tg : (y : Int) < (x : Int) := by omega
        have cs := swapRange_any HR.out HSk.out hsk (by omega) Pre (X.take y) (X.drop y) Y Suf p m y cap (by rw [hdk, List.append_assoc Pre (X.take y), List.take_append_drop]) (by rw [List.length_take]; omega) hY hp.symm (by rw [List.length_drop]; omega) FV
        rw [hdz] at cs
        obtain ⟨q, hq⟩ : ∃ q, x = q + y := ⟨x - y, by omega⟩
        have w4 : IntKind.i64.wrap ((x : Int) - (y : Int)) = (q : Int) := by rw [IntKind.wrap_i64]; omega
        have HM := hidss_ (show q < x by omega)
        have HN := hidss_ (show ∀ d' : Array α, d'.size = z → d'.toList = Pre ++ Y ++ X.drop y ++ X.take y ++ Suf → RotJ m z T q y d' from fun d' e1 e2 => ⟨Pre ++ Y, X.drop y, X.take y, Suf, by rw [List.length_drop]; omega, by rw [List.length_take]; omega, by omega, hy0, by rw [List.length_append]; omega, e2, by rw [← hTT, List.append_assoc (Pre ++ Y) (X.take y), List.take_append_drop], e1⟩)
        rw [hp] at w3
        clear HJk hX hY hpm hdk hTT hdz hlen hsk hp HJ HS hq
        go_wp2_with (go_at_call 86; ((with_reducible refine cs.mono ?_); clear cs; rintro e w2 ⟨rfl, d', h1, h2, h3⟩; have H1 := hidss_ h1; have H2 := hidss_ (HN.out d' h2 (by rw [h3])); clear h1 h2 h3))
        go_roundw
        case rel => exact ⟨q, y, d', by go_num, rfl, H1, H2⟩
        case measure => have := HM.out; simp [intOf]; omega
      · have tg : ¬ (y : Int) < (x : Int) := by omega
        obtain ⟨q, hq⟩ : ∃ q, y = q + x := ⟨y - x, by omega⟩
        obtain ⟨e, he⟩ : ∃ e, p + x + q = e := ⟨_, rfl⟩
        have HM := hidss_ (show q < y by omega)
        have cs := swapRange_any HR.out HSk.out hsk (by omega) Pre X (Y.take q) (Y.drop q) Suf p e x cap (by rw [hdk, List.append_assoc (Pre ++ X) (Y.take q), List.take_append_drop]) hX (by rw [List.length_drop]; omega) hp.symm (by rw [List.length_take]; omega) FV
        rw [hdz] at cs
        have w4 : IntKind.i64.wrap ((y : Int) - (x : Int)) = (q : Int) := by rw [IntKind.wrap_i64]; omega
        have w5 : IntKind.i64.wrap ((m : Int) + (y : Int) - (x : Int)) = (e : Int) := by rw [IntKind.wrap_i64]; omega
        have HN := hidss_ (show ∀ d' : Array α, d'.size = z → d'.toList = Pre ++ Y.drop q ++ Y.take q ++ X ++ Suf → RotJ m z T x q d' from fun d' e1 e2 => ⟨Pre, Y.drop q, Y.take q, X ++ Suf, by rw [List.length_drop]; omega, by rw [List.length_take]; omega, hx0, by omega, hpm, by rw [e2]; simp, by rw [← hTT, List.append_assoc Pre (Y.take q), List.take_append_drop]; simp, e1⟩)
        rw [hp] at w3
        clear HJk hX hY hpm hdk hTT hdz hlen hsk hp HJ HS hq he
        go_wp2_with (go_at_call 86; ((with_reducible refine cs.mono ?_); clear cs; rintro ee w2 ⟨rfl, d', h1, h2, h3⟩; have H1 := hidss_ h1; have H2 := hidss_ (HN.out d' h2 h3); clear h1 h2 h3))
        go_roundw
        case rel => exact ⟨x, q, d', rfl, by go_num, H1, H2⟩
        case measure => have := HM.out; simp [intOf]; omega
end
end Go.Proofs.YtegfnlnbhhmkjaaDoor

namespace Go.Proofs.YtegfnlnbhhmkjaaDoor
set_option maxRecDepth 100000
open Go.ChangeShapes Go.WideShapes Go.ChangeAt Go.RowKit Go.Sort Go.Shelf Go.Lib
set_option linter.unusedVariables false
set_option linter.unusedSectionVars false
set_option linter.unusedSimpArgs false

theorem quiet_load_subS {P : Program} {C : World → Prop} {o : Oper} {a : Act} {K : Act → Prop} (ty : TypeId) (x : Operand) (ho : o.op = .load ty x) (g off : Nat) (hx : a.eval x = .pointer (some ⟨g, off, none⟩)) (cs : Array Value) (d : TypeDesc)
    (hu : P.underlying ty = some d) (hd : (match d with | .struct _ | .array _ _ => true | _ => false) = true) (hi : (P.info? ty).map (·.size) = some cs.size)
    (h : ∀ W, C W → ∀ j, j < cs.size → W.cell? ⟨g, off + j, none⟩ = cs[j]?) (hk : K (a.put o.dst (.agg cs))) : o.quiet P a C K :=
  quiet_run (.agg cs) (fun W hW => by
    have hl : (loadCells ⟨g, off, none⟩ cs.toList.length).run P W = .ok cs.toList.toArray W :=
      run_loadCells_list (P := P) W ⟨g, off, none⟩ cs.toList (fun j v hv => by
        have hadd : (⟨g, off, none⟩ : Addr).add j = ⟨g, off + j, none⟩ := by unfold Addr.add; split <;> simp_all
        have hj : j < cs.size := by have := (List.getElem?_eq_some_iff.1 hv).1; simpa using this
        rw [hadd, h W hW j hj, ← hv]
        simp)
    obtain ⟨i, hq, hs⟩ := Option.map_eq_some_iff.1 hi
    have hagg : (isAgg ty).run P W = .ok true W := by
      unfold isAgg
      rw [Sem.run_bind, run_underlying hu W]
      cases d <;> simp_all
    simp only [Array.length_toList, Array.toArray_toList] at hl
    have hrun : (loadVar ty ⟨g, off, none⟩).run P W = .ok (.agg cs) W := by
      simp [loadVar, Sem.run_bind, hagg, Go.sizeOf, typeInfo, hq, hs, hl]
    unfold execOp
    simp only [ho, hx, Instr.loadAt, Instr.sureAddr, Sem.run_bind, Sem.run_pure, Result.andThen_ok, hrun]) hk

section
variable {α : Type} [Inhabited α] {lt : α → α → Bool}
def InsO (lt : α → α → Bool) (P A S : List α) (z t : Nat) (dk : Array α) : Prop := dk.toList = P ++ ssort lt (A.take t) ++ A.drop t ++ S ∧ dk.size = z
def InsI (lt : α → α → Bool) (P A S : List α) (z t r : Nat) (dk : Array α) : Prop :=
  ∃ x, A[t]? = some x ∧ r ≤ t ∧ dk.toList = P ++ (ssort lt (A.take t)).take r ++ x :: ((ssort lt (A.take t)).drop r ++ (A.drop (t + 1) ++ S)) ∧ (∀ q ∈ (ssort lt (A.take t)).drop r, lt x q = true) ∧ dk.size = z
theorem insI_start {P A S : List α} {z t : Nat} {dk : Array α} (h : InsO lt P A S z t dk) (ht : t < A.length) : InsI lt P A S z t t dk := by
  have hl : (ssort lt (A.take t)).length = t := by rw [ssort_len, List.length_take]; omega
  have h1 := h.1
  refine ⟨A[t], List.getElem?_eq_getElem ht, Nat.le_refl _, ?_, fun q hq => ?_, h.2⟩
  · rw [h1, List.drop_eq_getElem_cons ht]
    generalize ssort lt (A.take t) = Q at *
    rw [List.take_of_length_le (l := Q) (by omega), List.drop_of_length_le (l := Q) (by omega)]
    simp only [List.append_assoc, List.cons_append, List.nil_append]
  · rw [List.drop_of_length_le (by omega)] at hq
    cases hq
theorem ins_next (hw : Wk lt) {A : List α} {t : Nat} {x : α} (hx : A[t]? = some x) : ssort lt (A.take (t + 1)) = mrg lt (ssort lt (A.take t)) [x] := by
  obtain ⟨ht, e⟩ := List.getElem?_eq_some_iff.1 hx
  rw [List.take_succ_eq_append_getElem ht, ssort_app hw, ssort_one, e]
theorem insI_zero (hw : Wk lt) {P A S : List α} {z t : Nat} {dk : Array α} (h : InsI lt P A S z t 0 dk) : InsO lt P A S z (t + 1) dk := by
  obtain ⟨x, hx, _, hd, hq, hz⟩ := h
  refine ⟨?_, hz⟩
  rw [ins_next hw hx, mrg_one' _ x 0 (Nat.zero_le _) (fun y hy => by simp at hy) (fun y hy => hq y (by rw [List.drop_zero]; exact List.mem_of_getElem? hy)), hd]
  simp
theorem insI_two (hw : Wk lt) {P A S : List α} {z t r i j : Nat} {dk : Array α} (h : InsI lt P A S z t (r + 1) dk) (hi : i = P.length + r) (hj : j = P.length + (r + 1)) :
    j < dk.size ∧ i < dk.size ∧ (lt dk[j]! dk[i]! = true → InsI lt P A S z t r (swp dk j i)) ∧ (lt dk[j]! dk[i]! = false → InsO lt P A S z (t + 1) dk) := by
  unfold InsI InsO
  obtain ⟨x, hx, hrt, hd, hq, hz⟩ := h
  obtain ⟨ht, _⟩ := List.getElem?_eq_some_iff.1 hx
  have hl : (ssort lt (A.take t)).length = t := by rw [ssort_len, List.length_take]; omega
  have hS := ssort_srt hw (A.take t)
  have hN := ins_next hw hx
  generalize ssort lt (A.take t) = Q at *
  have eQ : Q.drop r = Q[r]'(by omega) :: Q.drop (r + 1) := List.drop_eq_getElem_cons (by omega)
  have tQ : Q.take (r + 1) = Q.take r ++ [Q[r]'(by omega)] := by rw [List.take_succ_eq_append_getElem (by omega)]
  have gQ : Q[r]? = some (Q[r]'(by omega)) := List.getElem?_eq_getElem (by omega)
  generalize Q[r]'(by omega) = y at *
  have h1 : dk.toList = (P ++ Q.take r) ++ y :: ([] ++ x :: (Q.drop (r + 1) ++ (A.drop (t + 1) ++ S))) := by rw [hd, tQ]; simp
  have l1 : i = (P ++ Q.take r).length := by rw [List.length_append, List.length_take]; omega
  have l2 : j = (P ++ Q.take r).length + 1 + ([] : List α).length := by rw [List.length_append, List.length_take, List.length_nil]; omega
  have h2 : dk.toList = ((P ++ Q.take r) ++ [y]) ++ x :: (Q.drop (r + 1) ++ (A.drop (t + 1) ++ S)) := by rw [h1]; simp
  have ey := at_list' h1 l1
  have ex := at_list' h2 (i := j) (by simp only [List.length_append, List.length_cons, List.length_nil] at l2 ⊢; omega)
  rw [ey.1, ex.1]
  refine ⟨ex.2, ey.2, fun hlt => ⟨x, hx, by omega, ?_, fun q hq' => ?_, by rw [size_swp]; exact hz⟩, fun hlt => ⟨?_, hz⟩⟩
  · rw [(swp_at h1 l1 l2).2, eQ]
    simp
  · rw [eQ] at hq'
    rcases List.mem_cons.1 hq' with e | hq'
    · rw [e]; exact hlt
    · exact hq q hq'
  · rw [hN, mrg_one' Q x (r + 1) (by omega) (fun q hq' => ?_) (fun q hq' => hq q ?_), hd]
    · simp
    · obtain ⟨k, hk, rfl⟩ := List.mem_iff_getElem.1 hq'
      rw [List.length_take] at hk
      have gk : Q[k]? = some ((Q.take (r + 1))[k]'(by rw [List.length_take]; omega)) := by rw [List.getElem_take, List.getElem?_eq_getElem]
      exact hw.tran _ _ _ (srt_get' hw hS (by omega) gk gQ) hlt
    · obtain ⟨hk, rfl⟩ := List.getElem?_eq_some_iff.1 hq'
      rw [List.drop_eq_getElem_cons hk]
      exact List.mem_cons_self ..
theorem insO_end {P A S : List α} {z t : Nat} {dk : Array α} (h : InsO lt P A S z t dk) (ht : A.length ≤ t) : dk.toList = P ++ ssort lt A ++ S := by
  rw [h.1, List.take_of_length_le ht, List.drop_of_length_le ht]
  simp
/-- cmp, called in whatever world of the sort. -/
def CmpS (enc : α → List Value) (w0 : World) (blk off z : Nat) (cf : α → α → Int) : Prop :=
  ∀ (W : World) (dk : Array α), SWK enc 2 w0 blk off dk W → dk.size = z → ∀ x y, Calls Tryd.prog 16 #[.agg (enc x).toArray, .agg (enc y).toArray] W fun e w' => e = .returned (.int .i64 (cf x y)) ∧ SWK enc 2 w0 blk off dk w'
end
def ExR77_6 (blk off z cap a b j x y : Nat) (ca cb : Array Value) : Nat → Value → World → Prop
  | 0, v, _ => v = .slice (some ⟨blk, off, none⟩) z cap
  | 1, v, _ => v = .int .i64 (x : Int)
  | 2, v, _ => v = .slice (some ⟨blk, off, none⟩) z cap
  | 3, v, _ => v = .int .i64 (x : Int)
  | 4, v, _ => v = .int .i64 (y : Int)
  | 5, v, _ => v = .slice (some ⟨blk, off, none⟩) z cap
  | 6, v, _ => v = .int .i64 (x : Int)
  | 7, v, _ => v = .int .i64 (y : Int)
  | 8, v, _ => v = .pointer (some ⟨blk, off + y * 2, none⟩)
  | 9, v, _ => v = .agg cb
  | 10, v, _ => v = .slice (some ⟨blk, off, none⟩) z cap
  | 11, v, _ => v = .int .i64 (x : Int)
  | 12, v, _ => v = .pointer (some ⟨blk, off + x * 2, none⟩)
  | 13, v, _ => v = .agg ca
  | 14, v, _ => v = .pointer (some ⟨blk, off + x * 2, none⟩)
  | 16, v, _ => v = .pointer (some ⟨blk, off + y * 2, none⟩)
  | _, _, _ => True
theorem ExR77_6.any {blk off z cap a b j x y : Nat} {ca cb : Array Value} {q : Nat} {v : Value} {W W' : World} (hh : ExR77_6 blk off z cap a b j x y ca cb q v W) : ExR77_6 blk off z cap a b j x y ca cb q v W' := by
  unfold ExR77_6 at hh ⊢
  split at hh <;> first | exact hh | trivial

section
variable {α : Type} [Inhabited α] {enc : α → List Value} {w0 W : World} {blk off : Nat} {d0 d : Array α}
set_option maxRecDepth 1000000 in
set_option maxHeartbeats 8000000 in
theorem insertion_any {lt : α → α → Bool} (hw : Wk lt) {cf : α → α → Int} (hlt : ∀ x y, lt x y = decide (cf x y < 0)) (hcmp : CmpS enc w0 blk off d0.size cf) (R : RowK enc 2 w0 blk off d0) (h : SWK enc 2 w0 blk off d W) (hs : d.size = d0.size) (hsz : d.size < 4611686018427387904) (P A S : List α) (a b cap : Nat)
    (hL : d.toList = P ++ A ++ S) (ha : a = P.length) (hb : b = P.length + A.length) :
    Calls Tryd.prog 66 #[.slice (some ⟨blk, off, none⟩) d.size cap, .int .i64 a, .int .i64 b, .func (.func 16) #[] #[]] W fun e w' =>
      e = .returned (.tuple #[]) ∧ ∃ d', SWK enc 2 w0 blk off d' w' ∧ d'.size = d.size ∧ d'.toList = P ++ ssort lt A ++ S := by
  have hlen : d.size = P.length + A.length + S.length := by
    have := congrArg List.length hL
    simp only [List.length_append, Array.length_toList] at this
    omega
  obtain ⟨z, hz⟩ : ∃ z, d.size = z := ⟨_, rfl⟩
  have HZ0 := hidss_ (show z = d0.size by omega)
  have HB := hidss_ (show b ≤ z ∧ a ≤ b by omega)
  have hbz : b ≤ z := by omega
  have haz : a ≤ z := by omega
  have hz62 : z < 4611686018427387904 := by omega
  have HR := hidss_ R
  have HS := hidss_ h
  have HA := hidss_ ha
  have HBB := hidss_ hb
  have HW := hidss_ hw
  have HLT := hidss_ hlt
  have HC := hidss_ hcmp
  have HO := hidss_ (show InsO lt P A S z 1 d from ⟨by
    cases A with
    | nil => rw [hL]; simp [ssort]
    | cons x A => rw [hL]; simp [ssort_one], hz⟩)
  rw [hz]
  clear hlen hL ha hb h R hs hsz hz hw hlt hcmp
  go_enter Tryd.func66, Tryd.ntmps66
  go_wp2
  go_loopw [8] (fun i wr => ∃ (ii t : Nat) (dk : Array α), i = .int .i64 ii ∧ Hid (ii = a + t ∧ 1 ≤ t) ∧ Hid (SWK enc 2 w0 blk off dk wr) ∧ Hid (InsO lt P A S z t dk)) (fun i _ => b - (intOf i).toNat)
  case atStart => exact ⟨a + 1, 1, d, by go_num, hidss_ ⟨rfl, Nat.le_refl _⟩, HS, HO⟩
  case round =>
    obtain ⟨ii, t, dk, rfl, HI, HSk, HOk⟩ := hrel
    by_cases hib : ii < b
    · have tb : (ii : Int) < (b : Int) := by omega
      have HT := hidss_ (show t < A.length by have := HI.out; have := HA.out; have := HBB.out; omega)
      have HII := hidss_ (insI_start HOk.out HT.out)
      clear HO HOk HS
      go_wp2
      go_loopw [9] (fun j wr => ∃ (x r : Nat) (dk : Array α), j = .int .i64 x ∧ Hid (x = a + r) ∧ Hid (SWK enc 2 w0 blk off dk wr) ∧ Hid (InsI lt P A S z t r dk)) (fun j _ => (intOf j).toNat)
      case atStart => exact ⟨ii, t, dk, rfl, hidss_ HI.out.1, HSk, HII⟩
      case round =>
        clear HSk HII
        obtain ⟨x, r, dk, rfl, HX, HSk, HII⟩ := hrel
        have HXZ := hidss_ (show x ≤ ii by obtain ⟨_, _, h, _⟩ := HII.out; have := HI.out; have := HX.out; omega)
        have hxii : x ≤ ii := HXZ.out
        by_cases hr : r = 0
        · subst hr
          have tg : ¬ (a : Int) < (x : Int) := by have := HX.out; omega
          have HN := hidss_ (insI_zero HW.out HII.out)
          clear HII
          go_upto_region 4 with fail
          refine region_quiet_in (C := fun W => SWK enc 2 w0 blk off dk W) (by kernel_rfl) (by kernel_rfl) HSk.out.drew ?_
          repeat (first | go_big_quiet_skip | (go_big_quiet_want; (first
            | (refine BigFrame.quiet_move _ rfl ?_; go_simp)
            | (refine quiet_run (.bool true) ?_ ?_; (focus (intro W hW; go_simp; done)); go_simp)
            | (refine quiet_run (.bool false) ?_ ?_; (focus (intro W hW; go_simp; done)); go_simp)); go_big_quiet_on))
          refine wpQuiet_nil ?_
          intro w4 hw4
          have HS4 := hidss_ hw4
          clear hw4
          go_wp2
          go_roundw
          case rel => exact ⟨ii + 1, t + 1, dk, by go_num, hidss_ (by have := HI.out; omega), HS4, HN⟩
          case measure => simp [intOf]; omega
        · obtain ⟨r, rfl⟩ : ∃ q, r = q + 1 := ⟨r - 1, by omega⟩
          have hx0 : 0 < x := by have := HX.out; omega
          have tg : (a : Int) < (x : Int) := by have := HX.out; omega
          obtain ⟨y, hy⟩ : ∃ y, x = y + 1 := ⟨x - 1, by omega⟩
          have HY := hidss_ (show y = a + r by have := HX.out; omega)
          obtain ⟨h1, h2, h3, h4⟩ := insI_two (i := y) (j := x) HW.out HII.out (by rw [HY.out, HA.out]) (by rw [HX.out, HA.out])
          have hdz : dk.size = z := by obtain ⟨_, _, _, _, _, h⟩ := HII.out; exact h
          have hsk : dk.size = d0.size := hdz.trans HZ0.out
          have Cx := hidss_ (fun W (hW : SWK enc 2 w0 blk off dk W) => swk_cells hW HR.out hsk x h1)
          have Cy := hidss_ (fun W (hW : SWK enc 2 w0 blk off dk W) => swk_cells hW HR.out hsk y h2)
          have St1 := hidss_ (fun W hW => swk_st1 HR.out hsk x h1 dk[y]! W hW)
          have St2 := hidss_ (fun W hW => swk_st2 HR.out hsk x y h1 h2 dk[x]! dk[y]! W hW)
          have Sw := hidss_ (fun W (hW : SWK enc 2 w0 blk off dk W) => hW.swap HR.out.hk HR.out.hblk x y h1 h2)
          have Ia := hidss_ (show (Tryd.prog.info? 61).map (·.size) = some (enc dk[x]!).toArray.size by rw [infoSib, List.size_toArray, HR.out.hk])
          have Ib := hidss_ (show (Tryd.prog.info? 61).map (·.size) = some (enc dk[y]!).toArray.size by rw [infoSib, List.size_toArray, HR.out.hk])
          have CC := hidss_ (fun W (hW : SWK enc 2 w0 blk off dk W) => HC.out W dk hW hsk dk[x]! dk[y]!)
          rw [HLT.out] at h3 h4
          obtain ⟨cz, hcz⟩ : ∃ c, cf dk[x]! dk[y]! = c := ⟨_, rfl⟩
          rw [hcz] at h3 h4 CC
          obtain ⟨ca, hca⟩ : ∃ c, (enc dk[x]!).toArray = c := ⟨_, rfl⟩
          obtain ⟨cb, hcb⟩ : ∃ c, (enc dk[y]!).toArray = c := ⟨_, rfl⟩
          rw [hca] at Cx St2 Ia CC
          rw [hcb] at Cy St1 Ib CC
          rw [hdz] at h1 h2
          have wy : IntKind.i64.wrap ((x : Int) - 1) = (y : Int) := by rw [IntKind.wrap_i64]; omega
          have ta : (x : Int) < (z : Int) := by omega
          have tb2 : (y : Int) < (z : Int) := by omega
          have HXY := hidss_ (show y < x by omega)
          have HTW := hidss_ h3
          have HTF := hidss_ h4
          clear hsk hdz hca hcb hcz hy h3 h4 HII
          by_cases hc : cz < 0
          · have tc : decide (cz < 0) = true := decide_eq_true hc
            have HTR := hidss_ tc
            go_upto_region 4 with fail
            refine region_quiet_in (C := fun W => SWK enc 2 w0 blk off dk W) (by kernel_rfl) (by kernel_rfl) HSk.out.drew ?_
            repeat (first | go_big_quiet_skip | (go_big_quiet_want; (first
              | (refine BigFrame.quiet_move _ rfl ?_; go_simp)
              | (refine quiet_run (.int .i64 (y : Int)) ?_ ?_; (focus (intro W hW; go_simp; done)); go_simp)
              | (refine quiet_run (.pointer (some ⟨blk, off + x * 2, none⟩)) ?_ ?_; (focus (intro W hW; go_simp; done)); go_simp)
              | (refine quiet_run (.pointer (some ⟨blk, off + y * 2, none⟩)) ?_ ?_; (focus (intro W hW; go_simp; done)); go_simp)
              | (refine quiet_load_subS 61 (.tmp 25) rfl blk (off + x * 2) rfl ca _ Tryd.underlying61 rfl Ia.out Cx.out ?_; go_simp)
              | (refine quiet_load_subS 61 (.tmp 30) rfl blk (off + y * 2) rfl cb _ Tryd.underlying61 rfl Ib.out Cy.out ?_; go_simp)
              | (refine quiet_call (.int .i64 cz) 16 #[.agg ca, .agg cb] ?_ CC.out ?_; (focus (intro W; go_simp; done)); go_simp)
              | (refine quiet_run (.bool true) ?_ ?_; (focus (intro W hW; go_simp; done)); go_simp)
              | (refine quiet_run (.bool false) ?_ ?_; (focus (intro W hW; go_simp; done)); go_simp)); go_big_quiet_on))
            refine wpQuiet_nil ?_
            intro w4 hw4
            have HS4 := hidss_ hw4
            clear hw4
            go_upto_region 6 with fail
            rename_i K9 hK9
            refine region_byJF [37, 38, 39, 40, 41, 42, 43, 44, 45, 46, 47, 48, 49, 50, 51, 52] (fun _ => True) (fun _ _ => True) (ExR77_6 blk off z cap a b 0 x y ca cb) (fun D _ W => ExJ enc w0 blk off dk x y 9 13 15 17 D W) (by kernel_rfl) (by kernel_rfl) (by kernel_rfl) (by kernel_rfl) (fun j v w w' hT hr => hr.any) (fun j v w hlt hj _ => ?_) trivial ?_ ?_ ?_
            · rcases j with _ | _ | _ | _ | _ | _ | _ | _ | _ | _ | _ | _ | _ | _ | _ | _ | _ | _ | j
              all_goals first
                | (exfalso; simp [dstOf] at hj; done)
                | trivial
            · refine ⟨fun D a9 W hC hd hsz hf hv hJ hL hW K9 hK => ?_, fun D a9 W hC hd hsz hf hv hJ hL hW K9 hK => ?_, fun D a9 W hC hd hsz hf hv hJ hL hW K9 hK => ?_, fun D a9 W hC hd hsz hf hv hJ hL hW K9 hK => ?_, fun D a9 W hC hd hsz hf hv hJ hL hW K9 hK => ?_, fun D a9 W hC hd hsz hf hv hJ hL hW K9 hK => ?_, fun D a9 W hC hd hsz hf hv hJ hL hW K9 hK => ?_, fun D a9 W hC hd hsz hf hv hJ hL hW K9 hK => ?_, fun D a9 W hC hd hsz hf hv hJ hL hW K9 hK => ?_, fun D a9 W hC hd hsz hf hv hJ hL hW K9 hK => ?_, fun D a9 W hC hd hsz hf hv hJ hL hW K9 hK => ?_, fun D a9 W hC hd hsz hf hv hJ hL hW K9 hK => ?_, fun D a9 W hC hd hsz hf hv hJ hL hW K9 hK => ?_, fun D a9 W hC hd hsz hf hv hJ hL hW K9 hK => ?_, fun D a9 W hC hd hsz hf hv hJ hL hW K9 hK => ?_, fun D a9 W hC hd hsz hf hv hJ hL hW K9 hK => ?_, fun D a9 W hC hd hsz hf hv hJ hL hW K9 hK => ?_, fun D a9 W hC hd hsz hf hv hJ hL hW K9 hK => ?_, trivial⟩
              · clear hsz
                have e1 := slot_of (a := a9) (s := 0) (v := .slice (some ⟨blk, off, none⟩) z cap) (hf 0 (by kernel_rfl))
                refine step_run (wanted_none rfl) (v := .slice (some ⟨blk, off, none⟩) z cap) (w' := W) ?_ (hK _ _ trivial trivial rfl (hJ.same 0 (by decide) (by decide)))
                go_simp
              · clear hsz
                have e1 := slot_of (a := a9) (s := 9) (v := .int .i64 (x : Int)) (hf 9 (by kernel_rfl))
                refine step_run (wanted_none rfl) (v := .int .i64 (x : Int)) (w' := W) ?_ (hK _ _ trivial trivial rfl (hJ.same 1 (by decide) (by decide)))
                go_simp
              · clear hsz
                have e1 := slot_of (a := a9) (s := 0) (v := .slice (some ⟨blk, off, none⟩) z cap) (hf 0 (by kernel_rfl))
                refine step_run (wanted_none rfl) (v := .slice (some ⟨blk, off, none⟩) z cap) (w' := W) ?_ (hK _ _ trivial trivial rfl (hJ.same 2 (by decide) (by decide)))
                go_simp
              · clear hsz
                have e1 := slot_of (a := a9) (s := 9) (v := .int .i64 (x : Int)) (hf 9 (by kernel_rfl))
                refine step_run (wanted_none rfl) (v := .int .i64 (x : Int)) (w' := W) ?_ (hK _ _ trivial trivial rfl (hJ.same 3 (by decide) (by decide)))
                go_simp
              · clear hsz
                have e1 := slot_of (a := a9) (s := 40) (v := .int .i64 (x : Int)) (hv 3 (by kernel_rfl))
                refine step_run (wanted_none rfl) (v := .int .i64 (y : Int)) (w' := W) ?_ (hK _ _ trivial trivial rfl (hJ.same 4 (by decide) (by decide)))
                go_simp
              · clear hsz
                have e1 := slot_of (a := a9) (s := 0) (v := .slice (some ⟨blk, off, none⟩) z cap) (hf 0 (by kernel_rfl))
                refine step_run (wanted_none rfl) (v := .slice (some ⟨blk, off, none⟩) z cap) (w' := W) ?_ (hK _ _ trivial trivial rfl (hJ.same 5 (by decide) (by decide)))
                go_simp
              · clear hsz
                have e1 := slot_of (a := a9) (s := 9) (v := .int .i64 (x : Int)) (hf 9 (by kernel_rfl))
                refine step_run (wanted_none rfl) (v := .int .i64 (x : Int)) (w' := W) ?_ (hK _ _ trivial trivial rfl (hJ.same 6 (by decide) (by decide)))
                go_simp
              · clear hsz
                have e1 := slot_of (a := a9) (s := 43) (v := .int .i64 (x : Int)) (hv 6 (by kernel_rfl))
                refine step_run (wanted_none rfl) (v := .int .i64 (y : Int)) (w' := W) ?_ (hK _ _ trivial trivial rfl (hJ.same 7 (by decide) (by decide)))
                go_simp
              · clear hsz
                have e1 := slot_of (a := a9) (s := 42) (v := .slice (some ⟨blk, off, none⟩) z cap) (hv 5 (by kernel_rfl))
                have e2 := slot_of (a := a9) (s := 44) (v := .int .i64 (y : Int)) (hv 7 (by kernel_rfl))
                refine step_run (wanted_none rfl) (v := .pointer (some ⟨blk, off + y * 2, none⟩)) (w' := W) ?_ (hK _ _ trivial trivial rfl (hJ.same 8 (by decide) (by decide)))
                go_simp
              · obtain hS := hJ.early (.inl rfl) hL
                refine step_load_sub (wanted_none rfl) 61 (.tmp 45) rfl blk (off + y * 2) (eval_of (hv 8 (by kernel_rfl))) cb (Cy.out W hS) _ Tryd.underlying61 rfl Ib.out (hK _ _ trivial trivial rfl (hJ.same 9 (by decide) (by decide)))
              · clear hsz
                have e1 := slot_of (a := a9) (s := 0) (v := .slice (some ⟨blk, off, none⟩) z cap) (hf 0 (by kernel_rfl))
                refine step_run (wanted_none rfl) (v := .slice (some ⟨blk, off, none⟩) z cap) (w' := W) ?_ (hK _ _ trivial trivial rfl (hJ.same 10 (by decide) (by decide)))
                go_simp
              · clear hsz
                have e1 := slot_of (a := a9) (s := 9) (v := .int .i64 (x : Int)) (hf 9 (by kernel_rfl))
                refine step_run (wanted_none rfl) (v := .int .i64 (x : Int)) (w' := W) ?_ (hK _ _ trivial trivial rfl (hJ.same 11 (by decide) (by decide)))
                go_simp
              · clear hsz
                have e1 := slot_of (a := a9) (s := 47) (v := .slice (some ⟨blk, off, none⟩) z cap) (hv 10 (by kernel_rfl))
                have e2 := slot_of (a := a9) (s := 48) (v := .int .i64 (x : Int)) (hv 11 (by kernel_rfl))
                refine step_run (wanted_none rfl) (v := .pointer (some ⟨blk, off + x * 2, none⟩)) (w' := W) ?_ (hK _ _ trivial trivial rfl (hJ.same 12 (by decide) (by decide)))
                go_simp
              · obtain hS := hJ.early (.inr rfl) hL
                refine step_load_sub (wanted_none rfl) 61 (.tmp 49) rfl blk (off + x * 2) (eval_of (hv 12 (by kernel_rfl))) ca (Cx.out W hS) _ Tryd.underlying61 rfl Ia.out (hK _ _ trivial trivial rfl (hJ.same 13 (by decide) (by decide)))
              · clear hsz
                have e1 := slot_of (a := a9) (s := 37) (v := .slice (some ⟨blk, off, none⟩) z cap) (hv 0 (by kernel_rfl))
                have e2 := slot_of (a := a9) (s := 38) (v := .int .i64 (x : Int)) (hv 1 (by kernel_rfl))
                refine step_run (wanted_none rfl) (v := .pointer (some ⟨blk, off + x * 2, none⟩)) (w' := W) ?_ (hK _ _ trivial trivial rfl (hJ.same 14 (by decide) (by decide)))
                go_simp
              · obtain hS := hJ.at1 hL (hW 9 (by kernel_rfl)) (hW 13 (by kernel_rfl))
                refine step_store_cells (wanted_none rfl) 61 (.tmp 51) (.tmp 46) rfl blk (off + x * 2) (eval_of (hv 14 (by kernel_rfl))) cb (eval_of (hv 9 (by kernel_rfl))) Ib.out _ (St1.out W hS) (hK _ _ trivial trivial trivial (ExJ.one hS (hW 9 (by kernel_rfl)) (hW 13 (by kernel_rfl)) (by decide) (hJ.no2 hL)))
              · clear hsz
                have e1 := slot_of (a := a9) (s := 39) (v := .slice (some ⟨blk, off, none⟩) z cap) (hv 2 (by kernel_rfl))
                have e2 := slot_of (a := a9) (s := 41) (v := .int .i64 (y : Int)) (hv 4 (by kernel_rfl))
                refine step_run (wanted_none rfl) (v := .pointer (some ⟨blk, off + y * 2, none⟩)) (w' := W) ?_ (hK _ _ trivial trivial rfl (hJ.same 16 (by decide) (by decide)))
                go_simp
              · obtain ⟨W1, hS, rfl⟩ := hJ.at2 hL (hW 15 (by kernel_rfl))
                refine step_store_cells (wanted_none rfl) 61 (.tmp 52) (.tmp 50) rfl blk (off + y * 2) (eval_of (hv 16 (by kernel_rfl))) ca (eval_of (hv 13 (by kernel_rfl))) Ia.out _ (St2.out W1 hS) (hK _ _ trivial trivial trivial (hJ.two (Sw.out W1 hS) (hW 15 (by kernel_rfl)) (by decide)))
            · exact .inl ⟨rfl, rfl, HS4.out.drew⟩
            · intro f wa hCa hva Da hDa hJa
              obtain ⟨aa, hJe, _⟩ := hJa
              have KJ := hidss_ (hJe.end_ (hDa 17 (by decide)))
              simp only [framed, List.foldl_cons, List.foldl_nil, List.setIfInBounds_toArray, List.set_cons_succ, List.set_cons_zero]
              clear hva hDa hJe hCa
              refine hK9 _ _ ?_
              go_wp2
              go_roundw
              case rel => exact ⟨y, r, _, by go_num, HY, KJ, hidss_ (HTW.out HTR.out)⟩
              case measure => have := HXY.out; simp [intOf]; omega
          · have tc : decide (cz < 0) = false := decide_eq_false hc
            have HTR := hidss_ tc
            go_upto_region 4 with fail
            refine region_quiet_in (C := fun W => SWK enc 2 w0 blk off dk W) (by kernel_rfl) (by kernel_rfl) HSk.out.drew ?_
            repeat (first | go_big_quiet_skip | (go_big_quiet_want; (first
              | (refine BigFrame.quiet_move _ rfl ?_; go_simp)
              | (refine quiet_run (.int .i64 (y : Int)) ?_ ?_; (focus (intro W hW; go_simp; done)); go_simp)
              | (refine quiet_run (.pointer (some ⟨blk, off + x * 2, none⟩)) ?_ ?_; (focus (intro W hW; go_simp; done)); go_simp)
              | (refine quiet_run (.pointer (some ⟨blk, off + y * 2, none⟩)) ?_ ?_; (focus (intro W hW; go_simp; done)); go_simp)
              | (refine quiet_load_subS 61 (.tmp 25) rfl blk (off + x * 2) rfl ca _ Tryd.underlying61 rfl Ia.out Cx.out ?_; go_simp)
              | (refine quiet_load_subS 61 (.tmp 30) rfl blk (off + y * 2) rfl cb _ Tryd.underlying61 rfl Ib.out Cy.out ?_; go_simp)
              | (refine quiet_call (.int .i64 cz) 16 #[.agg ca, .agg cb] ?_ CC.out ?_; (focus (intro W; go_simp; done)); go_simp)
              | (refine quiet_run (.bool true) ?_ ?_; (focus (intro W hW; go_simp; done)); go_simp)
              | (refine quiet_run (.bool false) ?_ ?_; (focus (intro W hW; go_simp; done)); go_simp)); go_big_quiet_on))
            refine wpQuiet_nil ?_
            intro w4 hw4
            have HS4 := hidss_ hw4
            clear hw4
            go_wp2
            go_roundw
            case rel => exact ⟨ii + 1, t + 1, dk, by go_num, hidss_ (by have := HI.out; omega), HS4, hidss_ (HTF.out HTR.out)⟩
            case measure => simp [intOf]; omega
    · have tb : ¬ (ii : Int) < (b : Int) := by omega
      have HE := hidss_ (insO_end HOk.out (by have := HI.out; have := HA.out; have := HBB.out; omega))
      have HZk := hidss_ HOk.out.2
      go_wp2
      go_end0
      exact ⟨rfl, dk, HSk.out, HZk.out, by rw [HE.out]; simp⟩
end
end Go.Proofs.YtegfnlnbhhmkjaaDoor
