/-
  For the laws of messages: says, blind, wide.
-/
import Derived.Test.YtnlipmcnpekifaaMog
import Derived.Test.YtnlipmcnpekifaaMok
import Derived.Lib.BufferWrite
import Derived.Laws.StructEq
namespace Go.Proofs.Ytnlipmcnpekifaa
set_option maxRecDepth 100000
open Go.RowKit
set_option linter.unusedVariables false
set_option linter.unusedSimpArgs false

def qS : MgA := ⟨2, 2, 3, 0, 0, 0, kr0, [], none, 0, [], none, 0, [], none, 0⟩
theorem built_qS : Try.prog.built 41 [(0, .int .i64 2), (1, .int .i64 2), (2, .int .i64 3)] = some (mgC qS).toArray := by kernel_rfl
theorem qS_bytes : mgB qS.v = [2, 2, 0, 0, 0, 0, 0, 0, 0, 3, 0] := by decide +kernel
theorem qS_ok : MgOk qS.v := ⟨⟨by decide, by decide⟩, ⟨by decide, by decide⟩, ⟨by decide, by decide⟩, by unfold BodyOk; simp [qS, MgA.v]⟩
theorem qS_mem (w : World) (B : Nat) : qS.Ok w B :=
  ⟨⟨zbytes_len 32, Rd.nil, Nat.zero_le _, by decide⟩, RdG.nil, ⟨Nat.zero_le _, Nat.zero_le _⟩, RdG.nil, ⟨Nat.zero_le _, Nat.zero_le _⟩, fun _ h => (by cases h), RdG.nil, ⟨Nat.zero_le _, Nat.zero_le _⟩, fun _ h => (by cases h)⟩
theorem rd0_no : endS (rdMg []).2.1 (rdMg []).2.2 ≠ 0 := by decide +kernel
theorem mark_putM (w w' : World) (g : Nat) (o : Obj) (hgz : w.heap.size = g) (hg : (w.alloc o).grownBy w' (some g)) : Below w.heap.size w w' := by
  subst hgz
  exact ((Below.refl w.heap.size w).alloc (Nat.le_refl _) o).grown hg (by simp) (fun k hk => by injection hk with hk; omega)
set_option maxRecDepth 100000 in
set_option maxHeartbeats 4000000 in
theorem says_any (w : World) : Calls Try.prog 10 #[] w fun e w' => e = .returned (.bool true) ∧ Below w.heap.size w w' := by
  have cw := write_any w qS (qS_mem _ _) ⟨Nat.zero_le _, Nat.zero_le _, Nat.zero_le _, Nat.zero_le _, fun _ h => (by cases h)⟩
  have hb := built_qS
  have i42 := i42 mgZ rfl
  go_enter Try.func10, Try.ntmps10
  go_upto_region 2 with (first
    | (refine wpList_built rfl 41 #[(0, .const (.int .i64 2)), (1, .const (.int .i64 2)), (2, .const (.int .i64 3))] rfl (mgC qS).toArray (by simp only [List.map_toArray, List.map_cons, List.map_nil]; exact hb) ?_)
    | (go_at_call 7; ((with_reducible refine cw.mono ?_); clear cw; rintro e w2 ⟨A, n, c, er, rfl, hd, hB⟩; obtain ⟨rfl, rfl, hO⟩ := hd.1 qS_ok; have B2 := hidm_ hB; have O2 := hidm_ hO; have cr := read_any w2 none 0 0 [] rfl Rd.nil (by omega); clear hd hB hO)))
  have hz := zMsg
  go_upto_region 3 with (first
    | (go_at_call 11; ((with_reducible refine cr.mono ?_); clear cr; rintro e w3 ⟨q, er, rfl, hB, _, _, hn⟩; obtain ⟨rfl, rfl⟩ := hn rd0_no; have B3 := hidm_ (B2.out.trans (hB.mono B2.out.size)); have O3 := hidm_ (O2.out.below hB (Nat.le_refl _)); clear hB hn))
    | (refine wpList_put_row rfl 41 (.tmp 3) (.tmp 12) rfl w3.heap.size (mgC mgZ).toArray rfl rfl 41 (mgC mgZ).toArray (Bk.new w3 _ _) i42 rfl (mgC_one _) ?_; intro w4 k4 g4 s4; have M4 := mark_putM w3 w4 w3.heap.size _ rfl g4; have B4 := hidm_ (B3.out.trans (M4.mono B3.out.size)); have O4 := hidm_ (O3.out.below M4 (Nat.le_refl _)); clear k4 g4 s4 M4))
  rw [qS_bytes] at O4
  have hcv := conv_strn O4.out.rd.1 11 c rfl
  have hlen : ([2, 2, 0, 0, 0, 0, 0, 0, 0, 3, 0] : List UInt8).length = 11 := rfl
  have htl : (strOf [2, 2, 0, 0, 0, 0, 0, 0, 0, 3, 0]).toList = [2, 2, 0, 0, 0, 0, 0, 0, 0, 3, 0] := strOf_toList _
  have hml : (mgB qS.v).length = 11 := by rw [qS_bytes]; rfl
  simp only [hml]
  go_wp2
  go_ret
  exact ⟨rfl, B4.out⟩
theorem pad32_laid (l : List UInt8) : laid (zbytes 32) 0 (l.take 32) = pad32 l := by
  unfold laid pad32
  rw [List.take_zero, List.nil_append, Nat.zero_add, List.take_append]
  congr 1
  unfold zbytes
  rw [List.drop_replicate, List.take_replicate, List.length_take]
  congr 1
  omega
/-- copy out of a string, as much as there is room. -/
theorem wpList_copyS {ops : Array Oper} {rest : List Oper} {o : Oper} {a : Act} {w : World} {Q : Exit → Act → World → Prop} (hgd : o.guard = none) (d x : Operand) (ho : o.op = .call { callee := .builtin .copy, args := #[d, x], argTypes := #[30, 9] })
    (g : Nat) (hd : a.eval d = .slice (some ⟨g, 0, none⟩) 32 32) (l : List UInt8) (hx : a.eval x = .string (strOf l)) (t : TypeId) (hg : Bk w g t (rowOf (zbytes 32)))
    (hK : ∀ w' v, Bk w' g t (rowOf (pad32 l)) → w.grownBy w' (some g) → w'.heap.size = w.heap.size → wpList Try.prog ops Q rest (a.put o.dst v) w') : wpList Try.prog ops Q (o :: rest) a w := by
  have h0 : ∃ w' v, (Builtin.copy_ #[30, 9] o.type #[.slice (some ⟨g, 0, none⟩) 32 32, .string (strOf l)]).run Try.prog w = .ok v w' ∧ Bk w' g t (rowOf (pad32 l)) ∧ w.grownBy w' (some g) ∧ w'.heap.size = w.heap.size := by
    have hcur : (rowOf (zbytes 32)).size = 32 := by rw [rowOf_size, zbytes_len]
    have hl : (l.take 32).length ≤ 32 := by rw [List.length_take]; omega
    have hr : (rowOf (l.take 32)).toList.length = (l.take 32).length := by simp [rowOf]
    have hst := run_storeCells_at Try.prog g 0 t (rowOf (l.take 32)).toList 0 (rowOf (zbytes 32)) w hg (by rw [hr, hcur]; omega) (one_of_row _)
    simp only [Nat.add_zero] at hst
    have hrow : ((rowOf (zbytes 32)).toList.take 0 ++ (rowOf (l.take 32)).toList ++ (rowOf (zbytes 32)).toList.drop (0 + (rowOf (l.take 32)).toList.length)).toArray = rowOf (pad32 l) := by rw [row_laid, pad32_laid]
    rw [hrow] at hst
    obtain ⟨i, hi, hz, hsize, hby⟩ := info_parts info8
    refine ⟨w.setRow g (rowOf (pad32 l)), goInt (Nat.min (strOf l).size 32), ?_, hg.rowed _, grown_row (World.grownBy.refl w _) _, by simp⟩
    · have htk : List.take (Nat.min (strOf l).size 32) (List.map (fun b : UInt8 => Value.int IntKind.u8 (b.toNat : Int)) (strOf l).data.toList) = (rowOf (l.take 32)).toList := by
        have e : (strOf l).data.toList = l := rfl
        rw [e, strOf_size, ← List.map_take]
        show List.map _ (List.take (min l.length 32) l) = _
        rw [rowOf, Nat.min_comm, ← List.take_take, List.take_length]
      simp [Builtin.copy_, run_underlying Try.underlying30, Builtin.lenOf, Builtin.firstCells, sizeOf, typeInfo, hi, hsize]
      rw [htk, hst]
      simp [Result.andThen]
  obtain ⟨w', v, hrun, h1, h2, h3⟩ := h0
  refine wpList_plain hgd fun K hKK => ?_
  unfold Oper.wp execOp
  simp only [ho, resolve, invoke, builtin, Sem.run_bind, Sem.run_pure, Result.andThen_ok, List.map_toArray, List.map_cons, List.map_nil, hd, hx, hrun]
  exact hKK _ _ (hK _ _ h1 h2 h3)
theorem z35 (W : World) : (zeroValue 35).run Try.prog W = .ok (.agg (rowOf (zbytes 32))) W := by kernel_rfl
theorem i35 (K : List UInt8) (h : K.length = 32) : (Try.prog.info? 35).map (·.size) = some (rowOf K).size := by rw [rowOf_size, h]; kernel_rfl
set_option maxRecDepth 100000 in
set_option maxHeartbeats 4000000 in
theorem blind_any (w : World) (l : List UInt8) : Calls Try.prog 25 #[.string (strOf l)] w fun e w' => e = .returned (.agg (rowOf (pad32 l))) ∧ Below w.heap.size w w' := by
  obtain ⟨g, hg⟩ : ∃ g, w.heap.size = g := ⟨_, rfl⟩
  obtain ⟨w1, hw1⟩ : ∃ x, w.alloc (.cells (rowOf (zbytes 32)) 35) = x := ⟨_, rfl⟩
  obtain ⟨w2, hw2⟩ : ∃ x, w1.alloc (.cells (rowOf (zbytes 32)) 35) = x := ⟨_, rfl⟩
  have S1 : w1.heap.size = g + 1 := by rw [← hw1, ← hg]; simp
  have B1 := show Below w.heap.size w w1 by rw [← hw1]; exact (Below.refl _ _).alloc (Nat.le_refl _) _
  have B2 := show Below w1.heap.size w1 w2 by rw [← hw2]; exact (Below.refl _ _).alloc (Nat.le_refl _) _
  have R2 := hidm_ (show Bk w2 g 35 (rowOf (zbytes 32)) by
    have h0 : Bk w1 g 35 (rowOf (zbytes 32)) := by rw [← hw1, ← hg]; exact Bk.new w _ _
    exact h0.below B2 h0.lt)
  have V2 := hidm_ (show Bk w2 (g + 1) 35 (rowOf (zbytes 32)) by rw [← hw2, ← S1]; exact Bk.new w1 _ _)
  have X2 := hidm_ (B1.trans (B2.mono (by omega)))
  have HG := hidm_ hg
  have hz := z35
  have sl := fun W => slice_allBm (g + 1) 0 W
  have PL := hidm_ (pad32_len l)
  have h1c := bytes_one (pad32 l)
  have hs0 : (rowOf (zbytes 32)).size = (rowOf (pad32 l)).size := by rw [rowOf_size, rowOf_size, zbytes_len, PL.out]
  have hi := i35 (pad32 l) PL.out
  clear B1 B2
  go_enter Try.func25, Try.ntmps25
  go_wp2_with (first
    | (refine wpList_copyS rfl (.tmp 4) (.tmp 5) rfl (g + 1) rfl l rfl 35 V2.out ?_; intro w3 v3 k3 g3 s3; have V3 := hidm_ k3; have R3 := hidm_ (R2.out.grown g3 (by simp)); have X3 := hidm_ (X2.out.grown g3 (by have := R2.out.lt; have := HG.out; omega) (fun k hk => by injection hk with hk; have := HG.out; omega)); clear k3 g3 s3)
    | (refine wpList_load_row rfl 35 (.tmp 3) rfl (g + 1) rfl 35 (rowOf (pad32 l)) (0, 0) _ V3.out Try.underlying35 rfl hi ?_)
    | (refine wpList_put_row rfl 35 (.tmp 2) (.tmp 7) rfl g (rowOf (pad32 l)) rfl rfl 35 (rowOf (zbytes 32)) R3.out hi hs0 h1c ?_; intro w4 k4 g4 s4; have R4 := hidm_ k4; have X4 := hidm_ (X3.out.grown g4 (by have := R3.out.lt; have := HG.out; omega) (fun k hk => by injection hk with hk; have := HG.out; omega)); clear k4 g4 s4))
  exact bodyPost_ret (results_cellM Try.results25 _ _ g rfl (run_loadVar_row _ _ _ _ _ (0, 0) _ R4.out Try.underlying35 rfl hi)) rfl ⟨rfl, X4.out⟩
set_option maxRecDepth 100000 in
set_option maxHeartbeats 4000000 in
theorem wide_any (w : World) (l : List UInt8) : Calls Try.prog 15 #[.string (strOf l)] w fun e w' => e = .returned (.string (strOf (pad32 l))) ∧ Below w.heap.size w w' := by
  have cb := blind_any w l
  have hz := z35
  have PL := hidm_ (pad32_len l)
  have h1c := bytes_one (pad32 l)
  have hs0 : (rowOf (zbytes 32)).size = (rowOf (pad32 l)).size := by rw [rowOf_size, rowOf_size, zbytes_len, PL.out]
  have hi := i35 (pad32 l) PL.out
  go_enter Try.func15, Try.ntmps15
  go_upto_region 2 with (first
    | (go_at_call 25; ((with_reducible refine cb.mono ?_); clear cb; rintro e w2 ⟨rfl, hB⟩; have B2 := hidm_ hB; clear hB))
    | (refine wpList_put_row rfl 35 (.tmp 3) (.tmp 5) rfl w2.heap.size (rowOf (pad32 l)) rfl rfl 35 (rowOf (zbytes 32)) (Bk.new w2 _ _) hi hs0 h1c ?_; intro w3 k3 g3 s3; have V3 := hidm_ k3; have M3 := mark_putM w2 w3 w2.heap.size _ rfl g3; have B3 := hidm_ (B2.out.trans (M3.mono B2.out.size)); clear k3 g3 s3 M3))
  have sl := fun W => slice_allBm w2.heap.size 0 W
  have hcv := conv_strn (rd_bk0 V3.out) 32 32 PL.out
  clear hz
  go_wp2
  go_ret
  exact ⟨rfl, B3.out⟩
end Go.Proofs.Ytnlipmcnpekifaa
