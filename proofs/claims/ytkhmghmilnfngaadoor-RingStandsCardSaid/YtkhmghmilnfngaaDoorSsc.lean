/-
  slices.swapRangeCmpFunc at siblings (twenty cells), told by the lists that the row is made of.
-/
import Derived.Test.YtkhmghmilnfngaaDoorSsb
import Derived.Test.YtkhmghmilnfngaaDoorUn
import Derived.Test.YtkhmghmilnfngaaDoorFj
namespace Go.Proofs.YtkhmghmilnfngaaDoor
set_option maxRecDepth 100000
open Go.ChangeShapes Go.WideShapes Go.ChangeAt Go.RowKit Go.Sort Go.Shelf Go.Lib
set_option linter.unusedVariables false
set_option linter.unusedSectionVars false
set_option linter.unusedSimpArgs false

theorem hidss_ {p : Prop} (h : p) : Hid p := h
theorem aggS (w : World) : (isAgg 55).run Tryd.prog w = .ok true w := by kernel_rfl
theorem sizS (w : World) : (Go.sizeOf 55).run Tryd.prog w = .ok 2 w := by kernel_rfl

theorem step_store_cells {P : Program} {ops : Array Oper} {o : Oper} {a : Act} {w : World} {K : Act → World → Prop} {Q : Exit → Act → World → Prop} {E : Prop} (hw : Region.wanted o (yielded ops a.tmps) = true) (ty : TypeId) (x y : Operand) (ho : o.op = .store ty x y) (g off : Nat) (hx : a.eval x = .pointer (some ⟨g, off, none⟩)) (vs : Array Value) (hy : a.eval y = .agg vs)
    (hi : (P.info? ty).map (·.size) = some vs.size) (w' : World) (hrun : Sem.run P (storeCells ⟨g, off, none⟩ vs.toList 0) w = .ok () w')
    (hk : K (a.put o.dst undef) w') : if Region.wanted o (yielded ops a.tmps) = true then Oper.wp P o a w K Q else E := by
  refine step_skip hw (w' := w') ?_ hk
  obtain ⟨i, hi1, hi2⟩ := Option.map_eq_some_iff.1 hi
  have h : (storeVar ty ⟨g, off, none⟩ (.agg vs)).run P w = .ok () w' := by
    simp [storeVar, Go.sizeOf, typeInfo, hi1, hi2, Value.cells, Sem.run_bind, hrun]
  unfold execOp
  simp only [ho, hx, hy, Instr.storeAt, Instr.sureAddr, Sem.run_bind, Sem.run_pure, Result.andThen_ok, h]
section
variable {α : Type} [Inhabited α] {enc : α → List Value} {w0 W W1 : World} {blk off : Nat} {d0 d dk : Array α} {x y L1 L2 s1 s2 : Nat} {D : Nat → Bool}
/-- An exchange under way: nothing stored; the first store done; both. L1, L2: the loads, s1, s2: the stores. -/
def ExJ (enc : α → List Value) (w0 : World) (blk off : Nat) (dk : Array α) (x y L1 L2 s1 s2 : Nat) (D : Nat → Bool) (W : World) : Prop :=
  (D s1 = false ∧ D s2 = false ∧ SWK enc 2 w0 blk off dk W) ∨ (D s1 = true ∧ D s2 = false ∧ D L1 = true ∧ D L2 = true ∧ ∃ W1, SWK enc 2 w0 blk off dk W1 ∧ W = W1.setCells blk (off + x * 2) (enc dk[y]!)) ∨ (D s1 = true ∧ D s2 = true ∧ D L1 = true ∧ D L2 = true ∧ SWK enc 2 w0 blk off (swp dk x y) W)
theorem ExJ.same (h : ExJ enc w0 blk off dk x y L1 L2 s1 s2 D W) (i : Nat) (h1 : i ≠ s1) (h2 : i ≠ s2) : ExJ enc w0 blk off dk x y L1 L2 s1 s2 (fun j => decide (j = i) || D j) W := by
  rcases h with ⟨a, b, c⟩ | ⟨a, b, c, d, e⟩ | ⟨a, b, c, d, e⟩
  · exact .inl ⟨by simp [a, Ne.symm h1], by simp [b, Ne.symm h2], c⟩
  · exact .inr (.inl ⟨by simp [a], by simp [b, Ne.symm h2], by simp [c], by simp [d], e⟩)
  · exact .inr (.inr ⟨by simp [a], by simp [b], by simp [c], by simp [d], e⟩)
theorem ExJ.early (h : ExJ enc w0 blk off dk x y L1 L2 s1 s2 D W) {i : Nat} (hi : i = L1 ∨ i = L2) (hL : D i = false) : SWK enc 2 w0 blk off dk W := by
  rcases h with ⟨a, b, c⟩ | ⟨a, b, c, d, e⟩ | ⟨a, b, c, d, e⟩
  · exact c
  · rcases hi with rfl | rfl
    · rw [c] at hL; cases hL
    · rw [d] at hL; cases hL
  · rcases hi with rfl | rfl
    · rw [c] at hL; cases hL
    · rw [d] at hL; cases hL
theorem ExJ.at1 (h : ExJ enc w0 blk off dk x y L1 L2 s1 s2 D W) (hL : D s1 = false) (h1 : D L1 = true) (h2 : D L2 = true) : SWK enc 2 w0 blk off dk W := by
  rcases h with ⟨a, b, c⟩ | ⟨a, b, c, d, e⟩ | ⟨a, b, c, d, e⟩
  · exact c
  · rw [a] at hL; cases hL
  · rw [a] at hL; cases hL
theorem ExJ.no2 (h : ExJ enc w0 blk off dk x y L1 L2 s1 s2 D W) (hL : D s1 = false) : D s2 = false := by
  rcases h with ⟨a, b, c⟩ | ⟨a, b, c, d, e⟩ | ⟨a, b, c, d, e⟩
  · exact b
  · rw [a] at hL; cases hL
  · rw [a] at hL; cases hL
theorem ExJ.one (hS : SWK enc 2 w0 blk off dk W) (h1 : D L1 = true) (h2 : D L2 = true) (hne : s2 ≠ s1) (h3 : D s2 = false) : ExJ enc w0 blk off dk x y L1 L2 s1 s2 (fun j => decide (j = s1) || D j) (W.setCells blk (off + x * 2) (enc dk[y]!)) :=
  .inr (.inl ⟨by simp, by simp [hne, h3], by simp [h1], by simp [h2], W, hS, rfl⟩)
theorem ExJ.at2 (h : ExJ enc w0 blk off dk x y L1 L2 s1 s2 D W) (hL : D s2 = false) (h1 : D s1 = true) : ∃ W1, SWK enc 2 w0 blk off dk W1 ∧ W = W1.setCells blk (off + x * 2) (enc dk[y]!) := by
  rcases h with ⟨a, b, c⟩ | ⟨a, b, c, d, e⟩ | ⟨a, b, c, d, e⟩
  · rw [a] at h1; cases h1
  · exact e
  · rw [b] at hL; cases hL
theorem ExJ.two (h : ExJ enc w0 blk off dk x y L1 L2 s1 s2 D W) (hS : SWK enc 2 w0 blk off (swp dk x y) W1) (h1 : D s1 = true) (hne : s1 ≠ s2) : ExJ enc w0 blk off dk x y L1 L2 s1 s2 (fun j => decide (j = s2) || D j) W1 := by
  rcases h with ⟨a, b, c⟩ | ⟨a, b, c, d, e⟩ | ⟨a, b, c, d, e⟩
  · rw [a] at h1; cases h1
  · exact .inr (.inr ⟨by simp [a], by simp, by simp [c], by simp [d], hS⟩)
  · exact .inr (.inr ⟨by simp [a], by simp, by simp [c], by simp [d], hS⟩)
theorem ExJ.end_ (h : ExJ enc w0 blk off dk x y L1 L2 s1 s2 D W) (h2 : D s2 = true) : SWK enc 2 w0 blk off (swp dk x y) W := by
  rcases h with ⟨a, b, c⟩ | ⟨a, b, c, d, e⟩ | ⟨a, b, c, d, e⟩
  · rw [b] at h2; cases h2
  · rw [b] at h2; cases h2
  · exact e
/-- The cells of one element. -/
theorem swk_cells (h : SWK enc 2 w0 blk off dk W) (R : RowK enc 2 w0 blk off d0) (hs : dk.size = d0.size) (i : Nat) (hi : i < dk.size) : ∀ j, j < (enc dk[i]!).toArray.size → W.cell? ⟨blk, off + i * 2 + j, none⟩ = (enc dk[i]!).toArray[j]? := fun j hj => by
  have hc := HoldsK.cells (h.holds R.hblk R.hH hs) R.hk hi j
  have hj2 : j < (enc dk[i]!).length := by simpa using hj
  have h2 := hc _ (List.getElem?_eq_getElem hj2)
  rw [Addr.add_lit] at h2
  rw [h2]
  simp [hj2]
theorem swk_st1 (R : RowK enc 2 w0 blk off d0) (hs : dk.size = d0.size) (i : Nat) (hi : i < dk.size) (v : α) (W : World) (h : SWK enc 2 w0 blk off dk W) : Sem.run Tryd.prog (storeCells ⟨blk, off + i * 2, none⟩ (enc v).toArray.toList 0) W = .ok () (W.setCells blk (off + i * 2) (enc v)) :=
  stores_of_holds Tryd.prog (h.holds R.hblk R.hH hs) (i * 2) (enc v) (by rw [R.hk, size_flatK]; exact rowK_bnd dk 2 i hi) (R.h1 _)
theorem swk_st2 (R : RowK enc 2 w0 blk off d0) (hs : dk.size = d0.size) (i j : Nat) (hi : i < dk.size) (hj : j < dk.size) (u v : α) (W : World) (h : SWK enc 2 w0 blk off dk W) : Sem.run Tryd.prog (storeCells ⟨blk, off + j * 2, none⟩ (enc u).toArray.toList 0) (W.setCells blk (off + i * 2) (enc v)) = .ok () ((W.setCells blk (off + i * 2) (enc v)).setCells blk (off + j * 2) (enc u)) :=
  stores_of_holds Tryd.prog (holds_setCells_c (h.holds R.hblk R.hH hs) (i * 2) _ (by rw [R.hk, size_flatK]; exact rowK_bnd dk 2 i hi)) (j * 2) (enc u) (by rw [R.hk, size_setMany, size_flatK]; exact rowK_bnd dk 2 j hj) (R.h1 _)
end
theorem infoSib : (Tryd.prog.info? 55).map (·.size) = some 2 := by kernel_rfl

def ExR87_3 (blk off z cap a b j x y : Nat) (ca cb : Array Value) : Nat → Value → World → Prop
  | 0, v, _ => v = .slice (some ⟨blk, off, none⟩) z cap
  | 1, v, _ => v = .int .i64 (a : Int)
  | 2, v, _ => v = .int .i64 (j : Int)
  | 3, v, _ => v = .int .i64 (x : Int)
  | 4, v, _ => v = .slice (some ⟨blk, off, none⟩) z cap
  | 5, v, _ => v = .int .i64 (b : Int)
  | 6, v, _ => v = .int .i64 (j : Int)
  | 7, v, _ => v = .int .i64 (y : Int)
  | 8, v, _ => v = .slice (some ⟨blk, off, none⟩) z cap
  | 9, v, _ => v = .int .i64 (b : Int)
  | 10, v, _ => v = .int .i64 (j : Int)
  | 11, v, _ => v = .int .i64 (y : Int)
  | 12, v, _ => v = .pointer (some ⟨blk, off + y * 2, none⟩)
  | 13, v, _ => v = .agg cb
  | 14, v, _ => v = .slice (some ⟨blk, off, none⟩) z cap
  | 15, v, _ => v = .int .i64 (a : Int)
  | 16, v, _ => v = .int .i64 (j : Int)
  | 17, v, _ => v = .int .i64 (x : Int)
  | 18, v, _ => v = .pointer (some ⟨blk, off + x * 2, none⟩)
  | 19, v, _ => v = .agg ca
  | 20, v, _ => v = .pointer (some ⟨blk, off + x * 2, none⟩)
  | 22, v, _ => v = .pointer (some ⟨blk, off + y * 2, none⟩)
  | _, _, _ => True
theorem ExR87_3.any {blk off z cap a b j x y : Nat} {ca cb : Array Value} {q : Nat} {v : Value} {W W' : World} (hh : ExR87_3 blk off z cap a b j x y ca cb q v W) : ExR87_3 blk off z cap a b j x y ca cb q v W' := by
  unfold ExR87_3 at hh ⊢
  split at hh <;> first | exact hh | trivial
section
variable {α : Type} [Inhabited α] {enc : α → List Value} {w0 W : World} {blk off : Nat} {d0 d : Array α}
set_option maxRecDepth 1000000 in
set_option maxHeartbeats 4000000 in
theorem swapRange_any (R : RowK enc 2 w0 blk off d0) (h : SWK enc 2 w0 blk off d W) (hs : d.size = d0.size) (hsz : d.size < 4611686018427387904) (P U M V S : List α) (a b n cap : Nat)
    (hL : d.toList = P ++ U ++ M ++ V ++ S) (hU : U.length = n) (hV : V.length = n) (ha : a = P.length) (hb : b = P.length + n + M.length) (FV : Value) :
    Calls Tryd.prog 56 #[.slice (some ⟨blk, off, none⟩) d.size cap, .int .i64 a, .int .i64 b, .int .i64 n, FV] W fun e w' =>
      e = .returned (.tuple #[]) ∧ ∃ d', SWK enc 2 w0 blk off d' w' ∧ d'.size = d.size ∧ d'.toList = P ++ V ++ M ++ U ++ S := by
  have hlen : d.size = P.length + n + M.length + n + S.length := by
    have := congrArg List.length hL
    simp only [List.length_append, Array.length_toList] at this
    omega
  obtain ⟨z, hz⟩ : ∃ z, d.size = z := ⟨_, rfl⟩
  have HZ0 := hidss_ (show z = d0.size by omega)
  have HB := hidss_ (show b + n ≤ z ∧ a + n ≤ b by omega)
  have hnz : n ≤ z := by omega
  have hz62 : z < 4611686018427387904 := by omega
  have HR := hidss_ R
  have HS := hidss_ h
  have HU := hidss_ hU
  have HV := hidss_ hV
  have HA := hidss_ ha
  have HBB := hidss_ hb
  have HL := hidss_ (show d.toList = swpL P U M V S 0 by rw [swpL_start]; exact hL)
  have HZ := hidss_ hz
  have mixed : Tryd.prog.follows .mixedOrders = true := by kernel_rfl
  have aE := aggS
  have zE := sizS
  rw [hz]
  clear hlen hL hU hV ha hb h R hs hsz hz
  go_enter Tryd.func56, Tryd.ntmps56
  go_wp2
  go_loopw [10] (fun i wr => ∃ (j : Nat) (dk : Array α), i = .int .i64 j ∧ j ≤ n ∧ Hid (dk.size = z) ∧ Hid (SWK enc 2 w0 blk off dk wr) ∧ Hid (dk.toList = swpL P U M V S j)) (fun i _ => n - (intOf i).toNat)
  case atStart => exact ⟨0, d, rfl, Nat.zero_le _, HZ, HS, HL⟩
  case round =>
    obtain ⟨j, dk, rfl, hj, HZk, HSk, HLk⟩ := hrel
    by_cases hlt : j < n
    · obtain ⟨hsw, h1, h2⟩ := swpL_step (a := a + j) (b := b + j) HU.out HV.out hlt (by rw [HA.out]) (by rw [HBB.out]) HLk.out
      have HSW := hidss_ hsw
      have hsk : dk.size = d0.size := HZk.out.trans HZ0.out
      obtain ⟨x, hx⟩ : ∃ x, a + j = x := ⟨_, rfl⟩
      obtain ⟨y, hy⟩ : ∃ y, b + j = y := ⟨_, rfl⟩
      rw [hx] at h1 HSW
      rw [hy] at h2 HSW
      have HSZ := hidss_ (show (swp dk x y).size = z by rw [size_swp]; exact HZk.out)
      have Cx := hidss_ (fun W (hW : SWK enc 2 w0 blk off dk W) => swk_cells hW HR.out hsk x h1)
      have Cy := hidss_ (fun W (hW : SWK enc 2 w0 blk off dk W) => swk_cells hW HR.out hsk y h2)
      have St1 := hidss_ (fun W hW => swk_st1 HR.out hsk x h1 dk[y]! W hW)
      have St2 := hidss_ (fun W hW => swk_st2 HR.out hsk x y h1 h2 dk[x]! dk[y]! W hW)
      have Sw := hidss_ (fun W (hW : SWK enc 2 w0 blk off dk W) => hW.swap HR.out.hk HR.out.hblk x y h1 h2)
      have Ia := hidss_ (show (Tryd.prog.info? 55).map (·.size) = some (enc dk[x]!).toArray.size by rw [infoSib, List.size_toArray, HR.out.hk])
      have Ib := hidss_ (show (Tryd.prog.info? 55).map (·.size) = some (enc dk[y]!).toArray.size by rw [infoSib, List.size_toArray, HR.out.hk])
      obtain ⟨ca, hca⟩ : ∃ c, (enc dk[x]!).toArray = c := ⟨_, rfl⟩
      obtain ⟨cb, hcb⟩ : ∃ c, (enc dk[y]!).toArray = c := ⟨_, rfl⟩
      rw [hca] at Cx St2 Ia
      rw [hcb] at Cy St1 Ib
      rw [HZk.out] at h1 h2
      have wx : IntKind.i64.wrap ((a : Int) + (j : Int)) = (x : Int) := by rw [IntKind.wrap_i64]; omega
      have wy : IntKind.i64.wrap ((b : Int) + (j : Int)) = (y : Int) := by rw [IntKind.wrap_i64]; omega
      have t0 : (0 : Int) ≤ (j : Int) := by omega
      have tl : (j : Int) < (n : Int) := by omega
      have ta : (x : Int) < (z : Int) := by omega
      have tb : (y : Int) < (z : Int) := by omega
      clear hsk hsw hx hy hca hcb
      have HJJ := hj
      go_upto_region 3 with fail
      rename_i K9 hK9
      refine region_byJF [16, 17, 18, 19, 20, 21, 22, 23, 24, 25, 26, 27, 28, 29, 30, 31, 32, 33, 34, 35, 36, 37] (fun _ => True) (fun _ _ => True) (ExR87_3 blk off z cap a b j x y ca cb) (fun D _ W => ExJ enc w0 blk off dk x y 13 19 21 23 D W) (by kernel_rfl) (by kernel_rfl) (by kernel_rfl) (by kernel_rfl) (fun j v w w' hT hr => hr.any) (fun j v w hlt hj _ => ?_) trivial ?_ ?_ ?_
      · rcases j with _ | _ | _ | _ | _ | _ | _ | _ | _ | _ | _ | _ | _ | _ | _ | _ | _ | _ | _ | _ | _ | _ | _ | _ | j
        all_goals first
          | (exfalso; simp [dstOf] at hj; done)
          | trivial
      · refine ⟨fun D a9 W hC hd hsz hf hv hJ hL hW K9 hK => ?_, fun D a9 W hC hd hsz hf hv hJ hL hW K9 hK => ?_, fun D a9 W hC hd hsz hf hv hJ hL hW K9 hK => ?_, fun D a9 W hC hd hsz hf hv hJ hL hW K9 hK => ?_, fun D a9 W hC hd hsz hf hv hJ hL hW K9 hK => ?_, fun D a9 W hC hd hsz hf hv hJ hL hW K9 hK => ?_, fun D a9 W hC hd hsz hf hv hJ hL hW K9 hK => ?_, fun D a9 W hC hd hsz hf hv hJ hL hW K9 hK => ?_, fun D a9 W hC hd hsz hf hv hJ hL hW K9 hK => ?_, fun D a9 W hC hd hsz hf hv hJ hL hW K9 hK => ?_, fun D a9 W hC hd hsz hf hv hJ hL hW K9 hK => ?_, fun D a9 W hC hd hsz hf hv hJ hL hW K9 hK => ?_, fun D a9 W hC hd hsz hf hv hJ hL hW K9 hK => ?_, fun D a9 W hC hd hsz hf hv hJ hL hW K9 hK => ?_, fun D a9 W hC hd hsz hf hv hJ hL hW K9 hK => ?_, fun D a9 W hC hd hsz hf hv hJ hL hW K9 hK => ?_, fun D a9 W hC hd hsz hf hv hJ hL hW K9 hK => ?_, fun D a9 W hC hd hsz hf hv hJ hL hW K9 hK => ?_, fun D a9 W hC hd hsz hf hv hJ hL hW K9 hK => ?_, fun D a9 W hC hd hsz hf hv hJ hL hW K9 hK => ?_, fun D a9 W hC hd hsz hf hv hJ hL hW K9 hK => ?_, fun D a9 W hC hd hsz hf hv hJ hL hW K9 hK => ?_, fun D a9 W hC hd hsz hf hv hJ hL hW K9 hK => ?_, fun D a9 W hC hd hsz hf hv hJ hL hW K9 hK => ?_, trivial⟩
        · clear hsz
          have e1 := slot_of (a := a9) (s := 0) (v := .slice (some ⟨blk, off, none⟩) z cap) (hf 0 (by kernel_rfl))
          refine step_run (wanted_none rfl) (v := .slice (some ⟨blk, off, none⟩) z cap) (w' := W) ?_ (hK _ _ trivial trivial rfl (hJ.same 0 (by decide) (by decide)))
          go_simp
        · clear hsz
          have e1 := slot_of (a := a9) (s := 1) (v := .int .i64 (a : Int)) (hf 1 (by kernel_rfl))
          refine step_run (wanted_none rfl) (v := .int .i64 (a : Int)) (w' := W) ?_ (hK _ _ trivial trivial rfl (hJ.same 1 (by decide) (by decide)))
          go_simp
        · clear hsz
          have e1 := slot_of (a := a9) (s := 10) (v := .int .i64 (j : Int)) (hf 10 (by kernel_rfl))
          refine step_run (wanted_none rfl) (v := .int .i64 (j : Int)) (w' := W) ?_ (hK _ _ trivial trivial rfl (hJ.same 2 (by decide) (by decide)))
          go_simp
        · clear hsz
          have e1 := slot_of (a := a9) (s := 17) (v := .int .i64 (a : Int)) (hv 1 (by kernel_rfl))
          have e2 := slot_of (a := a9) (s := 18) (v := .int .i64 (j : Int)) (hv 2 (by kernel_rfl))
          refine step_run (wanted_none rfl) (v := .int .i64 (x : Int)) (w' := W) ?_ (hK _ _ trivial trivial rfl (hJ.same 3 (by decide) (by decide)))
          go_simp
        · clear hsz
          have e1 := slot_of (a := a9) (s := 0) (v := .slice (some ⟨blk, off, none⟩) z cap) (hf 0 (by kernel_rfl))
          refine step_run (wanted_none rfl) (v := .slice (some ⟨blk, off, none⟩) z cap) (w' := W) ?_ (hK _ _ trivial trivial rfl (hJ.same 4 (by decide) (by decide)))
          go_simp
        · clear hsz
          have e1 := slot_of (a := a9) (s := 2) (v := .int .i64 (b : Int)) (hf 2 (by kernel_rfl))
          refine step_run (wanted_none rfl) (v := .int .i64 (b : Int)) (w' := W) ?_ (hK _ _ trivial trivial rfl (hJ.same 5 (by decide) (by decide)))
          go_simp
        · clear hsz
          have e1 := slot_of (a := a9) (s := 10) (v := .int .i64 (j : Int)) (hf 10 (by kernel_rfl))
          refine step_run (wanted_none rfl) (v := .int .i64 (j : Int)) (w' := W) ?_ (hK _ _ trivial trivial rfl (hJ.same 6 (by decide) (by decide)))
          go_simp
        · clear hsz
          have e1 := slot_of (a := a9) (s := 21) (v := .int .i64 (b : Int)) (hv 5 (by kernel_rfl))
          have e2 := slot_of (a := a9) (s := 22) (v := .int .i64 (j : Int)) (hv 6 (by kernel_rfl))
          refine step_run (wanted_none rfl) (v := .int .i64 (y : Int)) (w' := W) ?_ (hK _ _ trivial trivial rfl (hJ.same 7 (by decide) (by decide)))
          go_simp
        · clear hsz
          have e1 := slot_of (a := a9) (s := 0) (v := .slice (some ⟨blk, off, none⟩) z cap) (hf 0 (by kernel_rfl))
          refine step_run (wanted_none rfl) (v := .slice (some ⟨blk, off, none⟩) z cap) (w' := W) ?_ (hK _ _ trivial trivial rfl (hJ.same 8 (by decide) (by decide)))
          go_simp
        · clear hsz
          have e1 := slot_of (a := a9) (s := 2) (v := .int .i64 (b : Int)) (hf 2 (by kernel_rfl))
          refine step_run (wanted_none rfl) (v := .int .i64 (b : Int)) (w' := W) ?_ (hK _ _ trivial trivial rfl (hJ.same 9 (by decide) (by decide)))
          go_simp
        · clear hsz
          have e1 := slot_of (a := a9) (s := 10) (v := .int .i64 (j : Int)) (hf 10 (by kernel_rfl))
          refine step_run (wanted_none rfl) (v := .int .i64 (j : Int)) (w' := W) ?_ (hK _ _ trivial trivial rfl (hJ.same 10 (by decide) (by decide)))
          go_simp
        · clear hsz
          have e1 := slot_of (a := a9) (s := 25) (v := .int .i64 (b : Int)) (hv 9 (by kernel_rfl))
          have e2 := slot_of (a := a9) (s := 26) (v := .int .i64 (j : Int)) (hv 10 (by kernel_rfl))
          refine step_run (wanted_none rfl) (v := .int .i64 (y : Int)) (w' := W) ?_ (hK _ _ trivial trivial rfl (hJ.same 11 (by decide) (by decide)))
          go_simp
        · clear hsz
          have e1 := slot_of (a := a9) (s := 24) (v := .slice (some ⟨blk, off, none⟩) z cap) (hv 8 (by kernel_rfl))
          have e2 := slot_of (a := a9) (s := 27) (v := .int .i64 (y : Int)) (hv 11 (by kernel_rfl))
          refine step_run (wanted_none rfl) (v := .pointer (some ⟨blk, off + y * 2, none⟩)) (w' := W) ?_ (hK _ _ trivial trivial rfl (hJ.same 12 (by decide) (by decide)))
          go_simp
        · obtain hS := hJ.early (.inl rfl) hL
          refine step_load_sub (wanted_none rfl) 55 (.tmp 28) rfl blk (off + y * 2) (eval_of (hv 12 (by kernel_rfl))) cb (Cy.out W hS) _ Tryd.underlying55 rfl Ib.out (hK _ _ trivial trivial rfl (hJ.same 13 (by decide) (by decide)))
        · clear hsz
          have e1 := slot_of (a := a9) (s := 0) (v := .slice (some ⟨blk, off, none⟩) z cap) (hf 0 (by kernel_rfl))
          refine step_run (wanted_none rfl) (v := .slice (some ⟨blk, off, none⟩) z cap) (w' := W) ?_ (hK _ _ trivial trivial rfl (hJ.same 14 (by decide) (by decide)))
          go_simp
        · clear hsz
          have e1 := slot_of (a := a9) (s := 1) (v := .int .i64 (a : Int)) (hf 1 (by kernel_rfl))
          refine step_run (wanted_none rfl) (v := .int .i64 (a : Int)) (w' := W) ?_ (hK _ _ trivial trivial rfl (hJ.same 15 (by decide) (by decide)))
          go_simp
        · clear hsz
          have e1 := slot_of (a := a9) (s := 10) (v := .int .i64 (j : Int)) (hf 10 (by kernel_rfl))
          refine step_run (wanted_none rfl) (v := .int .i64 (j : Int)) (w' := W) ?_ (hK _ _ trivial trivial rfl (hJ.same 16 (by decide) (by decide)))
          go_simp
        · clear hsz
          have e1 := slot_of (a := a9) (s := 31) (v := .int .i64 (a : Int)) (hv 15 (by kernel_rfl))
          have e2 := slot_of (a := a9) (s := 32) (v := .int .i64 (j : Int)) (hv 16 (by kernel_rfl))
          refine step_run (wanted_none rfl) (v := .int .i64 (x : Int)) (w' := W) ?_ (hK _ _ trivial trivial rfl (hJ.same 17 (by decide) (by decide)))
          go_simp
        · clear hsz
          have e1 := slot_of (a := a9) (s := 30) (v := .slice (some ⟨blk, off, none⟩) z cap) (hv 14 (by kernel_rfl))
          have e2 := slot_of (a := a9) (s := 33) (v := .int .i64 (x : Int)) (hv 17 (by kernel_rfl))
          refine step_run (wanted_none rfl) (v := .pointer (some ⟨blk, off + x * 2, none⟩)) (w' := W) ?_ (hK _ _ trivial trivial rfl (hJ.same 18 (by decide) (by decide)))
          go_simp
        · obtain hS := hJ.early (.inr rfl) hL
          refine step_load_sub (wanted_none rfl) 55 (.tmp 34) rfl blk (off + x * 2) (eval_of (hv 18 (by kernel_rfl))) ca (Cx.out W hS) _ Tryd.underlying55 rfl Ia.out (hK _ _ trivial trivial rfl (hJ.same 19 (by decide) (by decide)))
        · clear hsz
          have e1 := slot_of (a := a9) (s := 16) (v := .slice (some ⟨blk, off, none⟩) z cap) (hv 0 (by kernel_rfl))
          have e2 := slot_of (a := a9) (s := 19) (v := .int .i64 (x : Int)) (hv 3 (by kernel_rfl))
          refine step_run (wanted_none rfl) (v := .pointer (some ⟨blk, off + x * 2, none⟩)) (w' := W) ?_ (hK _ _ trivial trivial rfl (hJ.same 20 (by decide) (by decide)))
          go_simp
        · obtain hS := hJ.at1 hL (hW 13 (by kernel_rfl)) (hW 19 (by kernel_rfl))
          refine step_store_cells (wanted_none rfl) 55 (.tmp 36) (.tmp 29) rfl blk (off + x * 2) (eval_of (hv 20 (by kernel_rfl))) cb (eval_of (hv 13 (by kernel_rfl))) Ib.out _ (St1.out W hS) (hK _ _ trivial trivial trivial (ExJ.one hS (hW 13 (by kernel_rfl)) (hW 19 (by kernel_rfl)) (by decide) (hJ.no2 hL)))
        · clear hsz
          have e1 := slot_of (a := a9) (s := 20) (v := .slice (some ⟨blk, off, none⟩) z cap) (hv 4 (by kernel_rfl))
          have e2 := slot_of (a := a9) (s := 23) (v := .int .i64 (y : Int)) (hv 7 (by kernel_rfl))
          refine step_run (wanted_none rfl) (v := .pointer (some ⟨blk, off + y * 2, none⟩)) (w' := W) ?_ (hK _ _ trivial trivial rfl (hJ.same 22 (by decide) (by decide)))
          go_simp
        · obtain ⟨W1, hS, rfl⟩ := hJ.at2 hL (hW 21 (by kernel_rfl))
          refine step_store_cells (wanted_none rfl) 55 (.tmp 37) (.tmp 35) rfl blk (off + y * 2) (eval_of (hv 22 (by kernel_rfl))) ca (eval_of (hv 19 (by kernel_rfl))) Ia.out _ (St2.out W1 hS) (hK _ _ trivial trivial trivial (hJ.two (Sw.out W1 hS) (hW 21 (by kernel_rfl)) (by decide)))
      · exact .inl ⟨rfl, rfl, HSk.out.drew⟩
      · intro f wa hCa hva Da hDa hJa
        obtain ⟨aa, hJe, _⟩ := hJa
        have KJ := hidss_ (hJe.end_ (hDa 23 (by decide)))
        simp only [framed, List.foldl_cons, List.foldl_nil, List.setIfInBounds_toArray, List.set_cons_succ, List.set_cons_zero]
        clear hva hDa hJe hCa
        refine hK9 _ _ ?_
        go_wp2
        go_roundw
        case rel => exact ⟨j + 1, _, by go_num, by omega, HSZ, KJ, HSW⟩
        case measure => simp [intOf]; omega
    · have tl : ¬ (j : Int) < (n : Int) := by omega
      have HE := hidss_ (show dk.toList = P ++ V ++ M ++ U ++ S by rw [HLk.out, show j = n by omega, swpL_end P U M V S n HU.out HV.out])
      go_wp2
      go_end0
      exact ⟨rfl, dk, HSk.out, HZk.out, by rw [HE.out]; simp⟩
end
end Go.Proofs.YtkhmghmilnfngaaDoor
