/-
  Contexts in memory; dot.Check.
-/
import Derived.Test.YtjflmfmncepeeaaIb
import Derived.BigFrame
namespace Go.Proofs.Ytjflmfmncepeeaa
open Go.ChangeShapes Go.WideShapes Go.ChangeAt Go.RowKit
set_option linter.unusedVariables false
set_option linter.unusedSimpArgs false

theorem run_load_sub {P : Program} {w : World} (ty : TypeId) (g off : Nat) (cs : Array Value) (hc : ∀ j, j < cs.size → w.cell? ⟨g, off + j, none⟩ = cs[j]?) (d : TypeDesc)
    (hu : P.underlying ty = some d) (hd : (match d with | .struct _ | .array _ _ => true | _ => false) = true) (hi : (P.info? ty).map (·.size) = some cs.size) : (loadVar ty ⟨g, off, none⟩).run P w = .ok (.agg cs) w := by
  have hl : (loadCells ⟨g, off, none⟩ cs.toList.length).run P w = .ok cs.toList.toArray w :=
    run_loadCells_list (P := P) w ⟨g, off, none⟩ cs.toList (fun j v hv => by
      have hadd : (⟨g, off, none⟩ : Addr).add j = ⟨g, off + j, none⟩ := by unfold Addr.add; split <;> simp_all
      have hj : j < cs.size := by
        have := (List.getElem?_eq_some_iff.1 hv).1
        simpa using this
      rw [hadd, hc j hj]
      simpa using hv)
  cases hq : P.info? ty with
  | none => simp [hq] at hi
  | some i =>
    have hs : i.size = cs.size := by simpa [hq] using hi
    have hagg : (isAgg ty).run P w = .ok true w := by
      unfold isAgg
      rw [Sem.run_bind, run_underlying hu w]
      cases d <;> simp_all
    simp only [Array.length_toList, Array.toArray_toList] at hl
    simp [loadVar, Sem.run_bind, hagg, sizeOf, typeInfo, hq, hs, hl]
theorem quiet_load_sub {P : Program} {C : World → Prop} {o : Oper} {a : Act} {K : Act → Prop} (ty : TypeId) (x : Operand) (ho : o.op = .load ty x) (g off : Nat) (hx : a.eval x = .pointer (some ⟨g, off, none⟩)) (cs : Array Value) (d : TypeDesc)
    (hu : P.underlying ty = some d) (hd : (match d with | .struct _ | .array _ _ => true | _ => false) = true) (hi : (P.info? ty).map (·.size) = some cs.size)
    (h : ∀ W, C W → ∀ j, j < cs.size → W.cell? ⟨g, off + j, none⟩ = cs[j]?) (hk : K (a.put o.dst (.agg cs))) : o.quiet P a C K :=
  quiet_run (.agg cs) (fun W hW => by
    have hrun := run_load_sub (P := P) ty g off cs (h W hW) d hu hd hi
    unfold execOp
    simp only [ho, hx, Instr.loadAt, Instr.sureAddr, Sem.run_bind, Sem.run_pure, Result.andThen_ok, hrun]) hk

theorem quiet_load_rowd {P : Program} {C : World → Prop} {o : Oper} {a : Act} {K0 : Act → Prop} (ty : TypeId) (x : Operand) (ho : o.op = .load ty x) (g : Nat) (hx : a.eval x = .pointer (some ⟨g, 0, none⟩)) (t : TypeId) (cs : Array Value) (d : TypeDesc)
    (hu : P.underlying ty = some d) (hd : (match d with | .struct _ | .array _ _ => true | _ => false) = true) (hi : (P.info? ty).map (·.size) = some cs.size)
    (hC : ∀ W, C W → Bk W g t cs) (hk : K0 (a.put o.dst (.agg cs))) : o.quiet P a C K0 :=
  quiet_load_sub ty x ho g 0 hx cs d hu hd hi (fun W hW j _ => by rw [Nat.zero_add]; exact (hC W hW).cell j) hk
/-- A row of sixteen numbers. -/
def intRow (up : List Int) : Array Value := (up.map fun z => Value.int .i64 z).toArray
theorem intRow_size (up : List Int) : (intRow up).size = up.length := by simp [intRow]
theorem intRow_at (up : List Int) (k : Nat) (h : k < up.length) : (intRow up)[k]? = some (.int .i64 (up.getD k 0)) := by
  simp [intRow, List.getD, h]
theorem size_int_ (W : World) : (sizeOf 3).run Try.prog W = .ok 1 W := by kernel_rfl
theorem agg_int_ (W : World) : (isAgg 3).run Try.prog W = .ok false W := by
  unfold isAgg
  rw [Sem.run_bind, run_underlying Try.underlying3 W]
  rfl
theorem index_up (up : List Int) (k : Nat) (hv : up.length = 16) (hk : k < 16) (W : World) :
    (Instr.index 22 (.agg (intRow up)) (.int .i64 (k : Int))).run Try.prog W = .ok (.int .i64 (up.getD k 0)) W := by
  have hc := intRow_at up k (by omega)
  have h1 : (0 : Int) ≤ (k : Int) ∧ (k : Int) < ((16 : Nat) : Int) := by omega
  unfold Instr.index
  simp only [asIntOf, Sem.run_bind, Sem.run_pure, Result.andThen_ok, run_underlying Try.underlying22 W]
  simp only [if_pos h1, Sem.run_bind, size_int_, Result.andThen_ok, part, agg_int_, Int.toNat_natCast, Nat.mul_one]
  simp [hc]
/-- A context's cells. -/
def ctxRow (up : List Int) (A : Option Addr) (n c : Nat) : Array Value := ((up.map fun z => Value.int .i64 z) ++ [Value.slice A n c]).toArray
theorem ctxRow_size (up : List Int) (A : Option Addr) (n c : Nat) (h : up.length = 16) : (ctxRow up A n c).size = 17 := by simp [ctxRow, h]
theorem ctxRow_up (up : List Int) (A : Option Addr) (n c k : Nat) (h : up.length = 16) (hk : k < 16) : (ctxRow up A n c)[k]? = some (.int .i64 (up.getD k 0)) := by
  simp [ctxRow, List.getElem?_append_left, h, hk, List.getD]
theorem ctxRow_more (up : List Int) (A : Option Addr) (n c : Nat) (h : up.length = 16) : (ctxRow up A n c)[16]? = some (.slice A n c) := by
  simp [ctxRow, List.getElem?_append_right, h]
/-- A slice of dots that reads as ms, below B. -/
def RdD (w : World) (B : Nat) (A : Option Addr) (ms : List DotV) : Prop :=
  0 < ms.length → ∃ b off, A = some ⟨b, off, none⟩ ∧ b < B ∧ ∀ j, j < ms.length → w.cell? ⟨b, off + j * 2, none⟩ = some (.int .i64 (ms.getD j ⟨0, 0⟩).c) ∧ w.cell? ⟨b, off + j * 2 + 1, none⟩ = some (.int .i64 (ms.getD j ⟨0, 0⟩).n)
theorem RdD.below {w w' : World} {B : Nat} {A : Option Addr} {ms : List DotV} (h : RdD w B A ms) (hb : Below B w w') : RdD w' B A ms := fun hn => by
  obtain ⟨b, off, e, hlt, hc⟩ := h hn
  exact ⟨b, off, e, hlt, fun j hj => ⟨(hb.cell (p := ⟨b, _, none⟩) hlt).trans (hc j hj).1, (hb.cell (p := ⟨b, _, none⟩) hlt).trans (hc j hj).2⟩⟩
theorem RdD.more {w : World} {B C : Nat} {A : Option Addr} {ms : List DotV} (h : RdD w B A ms) (hB : B ≤ C) : RdD w C A ms := fun hn => by
  obtain ⟨b, off, e, hlt, hc⟩ := h hn
  exact ⟨b, off, e, by omega, hc⟩
theorem row_two {w : World} {b o : Nat} {d : DotV} (h1 : w.cell? ⟨b, o, none⟩ = some (.int .i64 d.c)) (h2 : w.cell? ⟨b, o + 1, none⟩ = some (.int .i64 d.n)) : ∀ j, j < d.row.size → w.cell? ⟨b, o + j, none⟩ = d.row[j]? := fun j hj => by
  have : j < 2 := hj
  rcases (by omega : j = 0 ∨ j = 1) with rfl | rfl
  · exact h1
  · exact h2
theorem row_one (d : DotV) : d.row.all (·.oneCell') = true := by simp [DotV.row, Value.oneCell']
theorem iD_ : (Try.prog.info? 27).map (·.size) = some 2 := by kernel_rfl
theorem iU_ : (Try.prog.info? 22).map (·.size) = some 16 := by kernel_rfl
theorem iX_ : (Try.prog.info? 29).map (·.size) = some 17 := by kernel_rfl
theorem zD_ (W : World) : (zeroValue 27).run Try.prog W = .ok (.agg #[.int .i64 0, .int .i64 0]) W := by kernel_rfl

/-- What Check looks at. -/
def okU (z : Int) : Bool := decide (0 ≤ z ∧ z ≤ 1099511627776)
def okAt (up : List Int) (ms : List DotV) (j : Nat) : Bool :=
  isD (ms.getD j ⟨0, 0⟩) && (decide (j = 0) || decide (cmpD (ms.getD (j - 1) ⟨0, 0⟩) (ms.getD j ⟨0, 0⟩) < 0)) && decide (up.getD ((ms.getD j ⟨0, 0⟩).c - 1).toNat 0 + 2 ≤ (ms.getD j ⟨0, 0⟩).n)
/-- The first n all say yes. -/
def allN (n : Nat) (f : Nat → Bool) : Bool := (List.range n).all f
theorem allN_iff (n : Nat) (f : Nat → Bool) : allN n f = true ↔ ∀ j, j < n → f j = true := by simp [allN]
theorem allN_no {n : Nat} {f : Nat → Bool} {j : Nat} (hj : j < n) (h : f j = false) : allN n f = false := by
  cases hq : allN n f with
  | false => rfl
  | true => rw [(allN_iff n f).1 hq j hj] at h; cases h
def chk (up : List Int) (ms : List DotV) : Int :=
  if allN 16 (fun j => okU (up.getD j 0)) = false then 1 else if 32 < ms.length then 11 else if allN ms.length (okAt up ms) = false then 1 else 0
end Go.Proofs.Ytjflmfmncepeeaa
