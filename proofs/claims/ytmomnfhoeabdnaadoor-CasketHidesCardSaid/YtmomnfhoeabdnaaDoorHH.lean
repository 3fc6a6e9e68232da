/-
  Merged: Hg Hh Hi.
-/
import Derived.Test.YtmomnfhoeabdnaaDoorHf
import Derived.Test.YtmomnfhoeabdnaaDoorHB
import Derived.BigQuiet
import Derived.Lib.SlBytesConst
import Derived.Test.YtmomnfhoeabdnaaDoorAm
import Derived.Test.YtmomnfhoeabdnaaDoorCc
import Derived.Lib.AppendZerosOnto
import Derived.Lib.ConvBytes
namespace Go.Proofs.YtmomnfhoeabdnaaDoor
set_option maxRecDepth 100000
open Go.ChangeShapes Go.WideShapes Go.ChangeAt Go.RowKit
set_option linter.unusedVariables false
set_option linter.unusedSimpArgs false

theorem padK_get (key : List UInt8) (k : Nat) (h : k < 64) : (padK key).getD k 0 = (keyB key).getD k 0 := by
  unfold padK zbytes
  by_cases h1 : k < (keyB key).length
  · simp [List.getD, List.getElem?_append_left h1]
  · have h2 : (keyB key)[k]? = none := by simp; omega
    have h3 : k - (keyB key).length < 64 - (keyB key).length := by omega
    simp only [List.getD, List.getElem?_append_right (show (keyB key).length ≤ k by omega), h2, List.getElem?_replicate, h3, if_true]
    rfl
theorem maskB_get (key : List UInt8) (x : UInt8) (k : Nat) (h : k < 64) : (maskB key x).getD k 0 = (keyB key).getD k 0 ^^^ x := by
  rw [maskB, mixB_get _ _ k (by rw [padK_len]; exact h) (by simp; exact h), padK_get key k h]
  congr 1
  simp only [List.getD, List.getElem?_replicate, h, if_true]
  rfl
theorem maskB_snoc (key : List UInt8) (x : UInt8) (k : Nat) (h : k < 64) : (maskB key x).take (k + 1) = (maskB key x).take k ++ [(keyB key).getD k 0 ^^^ x] := by
  rw [take_snoc8 _ k (by rw [maskB_len]; exact h), maskB_get key x k h]
/-- The two rows that grow. -/
def TwoRows (w : World) (v1 v2 : Value) (l1 l2 : List UInt8) (W : World) : Prop :=
  Own8 W w.heap.size v1 l1 ∧ Own8 W w.heap.size v2 l2 ∧ (∀ b, v1.ownBlock = some b → v2.ownBlock ≠ some b) ∧ Below w.heap.size w W

theorem hid_h {p : Prop} (h : p) : Hid p := h

end Go.Proofs.YtmomnfhoeabdnaaDoor

namespace Go.Proofs.YtmomnfhoeabdnaaDoor
set_option maxRecDepth 100000
open Go.ChangeShapes Go.WideShapes Go.ChangeAt Go.RowKit
set_option linter.unusedVariables false
set_option linter.unusedSimpArgs false

set_option maxRecDepth 100000 in
theorem hmac_kx : (hmacB [107] [120] == hmacB [] [120]) = false := by decide +kernel
theorem eqIn32 (l m : List UInt8) (hl : l.length = 32) (hm : m.length = 32) (W : World) :
    (Op.equalIn 10000 25 (.agg (rowOf l)) (.agg (rowOf m))).run Tryd.prog W = .ok (l == m) W := by
  have hs : ∀ W : World, (sizeOf 5).run Tryd.prog W = .ok 1 W := fun W => by
    obtain ⟨i, hi, hz, hsize, hby⟩ := info_parts info8
    simp [sizeOf, typeInfo, hi, hsize]
  exact run_equalIn_bytes W 9998 25 5 32 Tryd.underlying25 Tryd.underlying5 hs l m hl hm
/-- A constant's bytes, in a row of one part. -/
theorem parts_const (W : World) (l : List UInt8) (n : Nat) (fz : Nat × Nat) (hn : l.length = n) (hm : n ≤ 1000) :
    Parts ((W.alloc (.cells (rowOf l) 5 fz)).alloc (.cells #[.slice (some ⟨W.heap.size, 0, none⟩) n n] 27)) ((W.alloc (.cells (rowOf l) 5 fz)).alloc (.cells #[.slice (some ⟨W.heap.size, 0, none⟩) n n] 27)).heap.size (some ⟨W.heap.size + 1, 0, none⟩) [l] := by
  have h := parts_one (W.alloc (.cells (rowOf l) 5 fz)) (some ⟨W.heap.size, 0, none⟩) n n l (W.heap.size + 1) hn (rd_mark W l fz) (by simp) (Nat.le_refl _) (by unfold maxLen; omega)
  simpa using h
end Go.Proofs.YtmomnfhoeabdnaaDoor

namespace Go.Proofs.YtmomnfhoeabdnaaDoor
set_option maxRecDepth 100000
open Go.RowKit Go.Lib
set_option linter.unusedVariables false

section
variable {w : World} {base : Nat} {v : Value} {l : List UInt8}
theorem own_zeros (w : World) (base n G : Nat) (l : List UInt8) (hb : base ≤ w.heap.size) (hG1 : l.length + n ≤ G) (hG2 : G ≤ maxLen) :
    Own8 (w.alloc (.cells ((rowOf l) ++ rowOf (List.replicate n 0) ++ rowOf (List.replicate (G - (l.length + n)) 0)) 5)) base (.slice (some ⟨w.heap.size, 0, none⟩) (l.length + n) G) (l ++ List.replicate n 0) := by
  refine ⟨by simp [rowOf], .inr ⟨w.heap.size, G, _, by simp, hb, heap_alloc_new w _, by simpa using hG1, hG2, ?_, ?_⟩⟩
  · simp [rowOf]
    omega
  · have h : ((rowOf l) ++ rowOf (List.replicate n 0) ++ rowOf (List.replicate (G - (l.length + n)) 0)).toList = (rowOf (l ++ List.replicate n 0)).toList ++ (rowOf (List.replicate (G - (l.length + n)) 0)).toList := by simp [rowOf]
    rw [h, Nat.mul_one, List.take_left' (by simp [rowOf])]
/-- append of n noughts onto an own slice. -/
theorem run_appZ (h : Own8 w base v l) (n : Nat) (ty : TypeId) (hsz : l.length + n ≤ 140737488355328) (hbase : base ≤ w.heap.size) :
    ∃ v' w', (Builtin.append_ #[27, 3] ty #[v, .int .i64 (n : Int)]).run Tryd.prog w = .ok v' w' ∧ Own8 w' base v' (l ++ List.replicate n 0) ∧ w.grownBy w' v.ownBlock ∧ (v'.ownBlock = v.ownBlock ∨ v'.ownBlock = some w.heap.size) := by
  obtain ⟨i, hi, hz, hsize, hby⟩ := info_parts info8
  have hw : IntKind.i64.wrap (n : Int) = n := by rw [IntKind.wrap_i64]; omega
  have hneg : ¬ ((n : Int) < 0) := by omega
  have h48 : ¬ (281474976710656 < (n : Int) * ((1 : Nat) : Int)) := by omega
  by_cases h0 : n = 0
  · subst h0
    have hrun : (Builtin.append_ #[27, 3] ty #[v, .int .i64 ((0 : Nat) : Int)]).run Tryd.prog w = .ok v w := by
      have hw0 : IntKind.i64.wrap 0 = 0 := by rw [IntKind.wrap_i64]; omega
      rcases h.2 with ⟨hv, h0⟩ | ⟨g, cap, cur, hv, _, _, hnc, _⟩
      · subst hv
        simp [Builtin.append_, run_underlying Tryd.underlying27, run_underlying Tryd.underlying3, sizeOf, typeInfo, hi, asInt, asIntOf, hw0]
      · subst hv
        simp [Builtin.append_, run_underlying Tryd.underlying27, run_underlying Tryd.underlying3, sizeOf, typeInfo, hi, asInt, asIntOf, hw0, hnc, storeCells]
    exact ⟨v, w, hrun, by simpa using h, World.grownBy.refl w _, .inl rfl⟩
  · have hgrow : ∀ (b : Option Addr) (cap : Nat), cap < l.length + n → cap ≤ l.length + n → (Builtin.firstCells i.size l.length (.slice b l.length cap)).run Tryd.prog w.drew = .ok (rowOf l).toList.toArray w.drew →
        ∃ v' w', (Builtin.append_ #[27, 3] ty #[.slice b l.length cap, .int .i64 (n : Int)]).run Tryd.prog w = .ok v' w' ∧ Own8 w' base v' (l ++ List.replicate n 0) ∧ w.grownBy w' (Value.slice b l.length cap).ownBlock ∧ v'.ownBlock = some w.heap.size := fun b cap hlt hle hold => by
      have hr := run_append_grow_zeros w 27 3 ty 5 i (.int .u8 0) .i64 .i64 Tryd.underlying27 Tryd.underlying3 hi hz b l.length cap (rowOf l).toList hold n (by omega) (by omega) hlt (by omega) (by rw [hby]; omega) (growslice_fits (by omega) (by rw [hby]; omega))
      rw [zero_cells8, zero_cells8] at hr
      have hG1 := grownCap_ge w (l.length + n) cap 5
      have hG2 := grownCap_le_maxLen w (l.length + n) cap 5 (by unfold maxLen; omega)
      generalize grownCap w (l.length + n) cap 5 = G at *
      have ho := own_zeros w.drew base n G l hbase hG1 hG2
      exact ⟨_, _, hr, by simpa using ho, (World.grownBy_alloc w.drew _ _ : World.grownBy w.drew _ _) |> fun hg => ⟨hg.os, hg.tape, hg.output, hg.size, hg.block⟩, rfl⟩
    rcases h.2 with ⟨rfl, hl0⟩ | ⟨g, cap, cur, rfl, hbg, hg, hnc, hcm, hcs, htake⟩
    · have hl : l = [] := List.eq_nil_of_length_eq_zero hl0
      subst hl
      obtain ⟨v', w', h1, h2, h3, h4⟩ := hgrow none 0 (by simp; omega) (by omega) (run_firstCells_none w.drew i.size 0 0 0)
      exact ⟨v', w', h1, h2, h3, .inr h4⟩
    · by_cases hfit : l.length + n ≤ cap
      · have hst := storeCells_mark Tryd.prog g l.length 5 (0, 0) (rowOf (List.replicate n 0)).toList 0 cur w hg (fun j _ => by omega) (by simp [rowOf]; omega) (one_of_row _)
        refine ⟨.slice (some ⟨g, 0, none⟩) (l.length + n) cap, w.setRow g (cur.toList.take (l.length + 0) ++ (rowOf (List.replicate n 0)).toList ++ cur.toList.drop (l.length + 0 + (rowOf (List.replicate n 0)).toList.length)).toArray, ?_, ?_, ⟨rfl, rfl, rfl, by simp, fun k _ hk => setRow_other w g k _ (fun e => hk (by simp [e, Value.ownBlock]))⟩, .inl rfl⟩
        · have hadd : (⟨g, 0, none⟩ : Addr).add (l.length * i.size) = ⟨g, l.length, none⟩ := by rw [hsize, Nat.mul_one]; unfold Addr.add; split <;> simp_all
          have hn2 : n * i.size ≠ 0 := by rw [hsize]; omega
          simp [Builtin.append_, run_underlying Tryd.underlying27, run_underlying Tryd.underlying3, sizeOf, typeInfo, zeroValue, hi, hz, asInt, asIntOf, hw, hneg, hby, hfit, hn2, hadd]
          rw [if_neg (by omega), zero_cells8, hst]
          simp
        · refine ⟨by simp [rowOf], .inr ⟨g, cap, _, by simp, hbg, setRow_heap w g cur _ _ _ hg, by simpa using hfit, hcm, ?_, ?_⟩⟩
          · simp [rowOf]
            omega
          · rw [Nat.mul_one] at htake
            have h2 : (cur.toList.take (l.length + 0) ++ (rowOf (List.replicate n 0)).toList ++ cur.toList.drop (l.length + 0 + (rowOf (List.replicate n 0)).toList.length)).toArray.toList = (rowOf (l ++ List.replicate n 0)).toList ++ cur.toList.drop (l.length + 0 + (rowOf (List.replicate n 0)).toList.length) := by
              rw [Nat.add_zero, htake]
              simp [rowOf]
            rw [h2, Nat.mul_one, List.take_left' (by simp [rowOf])]
      · obtain ⟨v', w', h1, h2, h3, h4⟩ := hgrow (some ⟨g, 0, none⟩) cap (by omega) (by omega) (run_firstCells_some (P := Tryd.prog) (w := w.drew) i.size l.length ⟨g, 0, none⟩ l.length cap (rowOf l).toList (by simp [rowOf, hsize]) (fun j u hu => World.ownsRow.cells (w := w.drew) h.drew rfl j u hu))
        exact ⟨v', w', h1, h2, h3, .inr h4⟩
theorem wpList_appZ {ops : Array Oper} {rest : List Oper} {o : Oper} {a : Act} {Q : Exit → Act → World → Prop} (hgd : o.guard = none) (s x : Operand)
    (ho : o.op = .call { callee := .builtin .append, args := #[s, x], argTypes := #[27, 3] })
    (h : Own8 w base v l) (hs : a.eval s = v) (n : Nat) (hx : a.eval x = .int .i64 (n : Int))
    (hsz : l.length + n ≤ 140737488355328) (hbase : base ≤ w.heap.size)
    (hK : ∀ A' c' w', Own8 w' base (.slice A' (l.length + n) c') (l ++ List.replicate n 0) → w.grownBy w' v.ownBlock → ((Value.slice A' (l.length + n) c').ownBlock = v.ownBlock ∨ (Value.slice A' (l.length + n) c').ownBlock = some w.heap.size) → wpList Tryd.prog ops Q rest (a.put o.dst (.slice A' (l.length + n) c')) w') : wpList Tryd.prog ops Q (o :: rest) a w := by
  obtain ⟨v', w', hrun, h2, h3, h4⟩ := run_appZ h n o.type hsz hbase
  obtain ⟨A', c', hv, _⟩ := h2.form
  rw [List.length_append, List.length_replicate] at hv
  subst hv
  exact wpList_append_run w hgd s x _ _ ho _ _ hs hx _ w' hrun (hK A' c' w' h2 h3 h4)
end
/-- The bytes of a string, in a row of the call's own. -/
theorem conv_bytes (W : World) (l : List UInt8) (n : Nat) (hn : l.length = n) (hm : n ≤ maxLen) : ∃ W' c, (convert 9 27 (.string (strOf l))).run Tryd.prog W = .ok (.slice (some ⟨W.heap.size, 0, none⟩) n c) W' ∧ Below W.heap.size W W' ∧ Rd W' W'.heap.size (some ⟨W.heap.size, 0, none⟩) l ∧ n ≤ c ∧ c ≤ 9223372036854775807 := by
  subst hn
  have hs : (strOf l).size = l.length := by simp [strOf, ByteArray.size]
  have h := Go.Lib.run_convert_string_bytes (P := Tryd.prog) W 9 27 5 (strOf l) Tryd.underlying9 Tryd.underlying27 Tryd.underlying5
  have hG1 := grownCap_ge W (strOf l).size 0 5
  have hG2 := grownCap_le_maxLen W (strOf l).size 0 5 (by rw [hs]; exact hm)
  have hz := bytesWorld_size W 5 (strOf l)
  refine ⟨bytesWorld W 5 (strOf l), grownCap W (strOf l).size 0 5, by rw [h, hs], ⟨rfl, rfl, rfl, by rw [hz]; omega, fun k hk => bytesWorld_at_old W _ _ k hk⟩, fun _ => ⟨_, 0, rfl, by rw [hz]; omega, fun j hj => ?_⟩, by rw [← hs]; exact hG1, by unfold maxLen at hG2; omega⟩
  rw [Nat.zero_add, bytesWorld_cell W _ _ j (by rw [hs]; exact hj)]
  simp [strOf]
/-- A whole row read behind a guard that says yes, in a drawn region. -/
theorem step_load_rowW {P : Program} {ops : Array Oper} {o : Oper} {a : Act} {w : World} {K : Act → World → Prop} {Q : Exit → Act → World → Prop} {E : Prop} (hw : Region.wanted o (yielded ops a.tmps) = true) (ty : TypeId) (x : Operand) (ho : o.op = .load ty x) (g : Nat) (hx : a.eval x = .pointer (some ⟨g, 0, none⟩)) (t : TypeId) (cs : Array Value) (hb : Bk w g t cs) (d : TypeDesc)
    (hu : P.underlying ty = some d) (hd : (match d with | .struct _ | .array _ _ => true | _ => false) = true) (hi : (P.info? ty).map (·.size) = some cs.size)
    (hk : K (a.put o.dst (.agg cs)) w) : if Region.wanted o (yielded ops a.tmps) = true then Oper.wp P o a w K Q else E := by
  have hrun : (loadVar ty ⟨g, 0, none⟩).run P w = .ok (.agg cs) w := run_loadVar_row _ _ _ _ _ (0, 0) _ hb hu hd hi
  refine step_run hw (v := .agg cs) (w' := w) ?_ hk
  unfold execOp
  simp only [ho, hx, Instr.loadAt, Instr.sureAddr, Sem.run_bind, Sem.run_pure, Result.andThen_ok, hrun]
/-- A key of more than sixty-four bytes has its digest's mask. -/
theorem padK_sha (key : List UInt8) (h : 64 < key.length) : padK (sha key) = padK key := by
  have h2 : ¬ 64 < (sha key).length := by rw [sha_len]; omega
  simp [padK, keyB, h, h2]
theorem hmacB_sha (key text : List UInt8) (h : 64 < key.length) : hmacB (sha key) text = hmacB key text := by simp only [hmacB, maskB, padK_sha key h]
/-- Noughts behind a key. -/
theorem padK_zeros (key : List UInt8) (n : Nat) (h : key.length + n ≤ 64) : padK (key ++ List.replicate n 0) = padK key := by
  have h1 : ¬ 64 < key.length := by omega
  have h2 : ¬ 64 < (key ++ List.replicate n (0 : UInt8)).length := by simp; omega
  have e1 : keyB key = key := by rw [keyB, if_neg h1]
  have e2 : keyB (key ++ List.replicate n 0) = key ++ List.replicate n 0 := by rw [keyB, if_neg h2]
  rw [padK, padK, e1, e2, zbytes, zbytes, List.append_assoc, List.replicate_append_replicate, List.length_append, List.length_replicate]
  congr 2
  omega
theorem hmacB_zeros (key text : List UInt8) (n : Nat) (h : key.length + n ≤ 64) : hmacB (key ++ List.replicate n 0) text = hmacB key text := by simp only [hmacB, maskB, padK_zeros key n h]
end Go.Proofs.YtmomnfhoeabdnaaDoor
