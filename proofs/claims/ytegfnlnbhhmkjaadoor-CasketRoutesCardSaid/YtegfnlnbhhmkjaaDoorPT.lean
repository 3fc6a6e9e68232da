/-
  Merged: Sv Dg Pt.
-/
import Derived.Test.YtegfnlnbhhmkjaaDoorSS
import Derived.KernelRfl
import Derived.Lib.SlBytesConst
import Derived.Test.YtegfnlnbhhmkjaaDoorAp
import Derived.OpenShut
import Derived.Stop.BytesEq
import Derived.BigFrame
namespace Go.Proofs.YtegfnlnbhhmkjaaDoor
set_option maxRecDepth 100000
set_option maxRecDepth 100000 in
theorem sha_abc : sha [97, 98, 99] = [186, 120, 22, 191, 143, 1, 207, 234, 65, 65, 64, 222, 93, 174, 34, 35, 176, 3, 97, 163, 150, 23, 122, 156, 180, 16, 255, 97, 242, 0, 21, 173] := by decide +kernel
end Go.Proofs.YtegfnlnbhhmkjaaDoor

namespace Go.Proofs.YtegfnlnbhhmkjaaDoor
set_option maxRecDepth 100000
open Go.RowKit
set_option linter.unusedVariables false

theorem Bk.rd {w : World} {g B : Nat} {t : TypeId} {l : List UInt8} (h : Bk w g t (rowOf l)) (hB : g < B) : Rd w B (some ⟨g, 0, none⟩) l := fun _ =>
  ⟨g, 0, rfl, hB, fun j hj => by rw [Nat.zero_add, h.cell, rowOf_at l j hj]⟩

theorem dig_size (W : World) : (sizeOf (Tryd.prog.elem 22)).run Tryd.prog W = .ok 1 W := by
  have he : Tryd.prog.elem 22 = 5 := by kernel_rfl
  rw [he]
  obtain ⟨i, hi, hz, hsize, hby⟩ := info_parts info8
  simp [sizeOf, typeInfo, hi, hsize]
/-- The beginning of a digest, as a slice. -/
theorem dig_to (g : Nat) (k : Nat) (hk : k ≤ 32) (W : World) :
    (Instr.sliceAt 22 (.pointer (some ⟨g, 0, none⟩)) none (some (.int .i64 (k : Int))) none).run Tryd.prog W = .ok (.slice (some ⟨g, 0, none⟩) k 32) W := by
  have he : Tryd.prog.elem 22 = 5 := by kernel_rfl
  have hn : Tryd.prog.arrayLen 22 = 32 := by kernel_rfl
  have ht : Tryd.prog.underlying 22 = some (.array (Tryd.prog.arrayLen 22) (Tryd.prog.elem 22)) := by rw [he, hn]; exact Tryd.underlying22
  rw [run_sliceAt_array_h W 22 ⟨g, 0, none⟩ ht .i64 k (by omega) (by rw [hn]; omega), dig_size, hn]
  simp only [Result.andThen, slicedAt, Int.toNat_natCast, Nat.mul_one]
  rw [if_neg (by omega)]
  congr 3
/-- The rest of a digest, as a slice. -/
theorem dig_from (g : Nat) (k : Nat) (hk : k < 32) (W : World) :
    (Instr.sliceAt 22 (.pointer (some ⟨g, 0, none⟩)) (some (.int .i64 (k : Int))) none none).run Tryd.prog W = .ok (.slice (some ⟨g, k, none⟩) (32 - k) (32 - k)) W := by
  have he : Tryd.prog.elem 22 = 5 := by kernel_rfl
  have hn : Tryd.prog.arrayLen 22 = 32 := by kernel_rfl
  have ht : Tryd.prog.underlying 22 = some (.array (Tryd.prog.arrayLen 22) (Tryd.prog.elem 22)) := by rw [he, hn]; exact Tryd.underlying22
  rw [run_sliceAt_array_l W 22 ⟨g, 0, none⟩ ht .i64 k (by omega) (by rw [hn]; omega), dig_size, hn]
  simp only [Result.andThen, slicedAt, Int.toNat_natCast, Nat.mul_one]
  rw [if_neg (by omega)]
  congr 3
  unfold Addr.add
  split
  · congr 1; omega
  · simp
/-- All of a digest, as a slice. -/
theorem dig_all (g : Nat) (W : World) :
    (Instr.sliceAt 22 (.pointer (some ⟨g, 0, none⟩)) none none none).run Tryd.prog W = .ok (.slice (some ⟨g, 0, none⟩) 32 32) W := by
  have he : Tryd.prog.elem 22 = 5 := by kernel_rfl
  have hn : Tryd.prog.arrayLen 22 = 32 := by kernel_rfl
  have ht : Tryd.prog.underlying 22 = some (.array (Tryd.prog.arrayLen 22) (Tryd.prog.elem 22)) := by rw [he, hn]; exact Tryd.underlying22
  rw [run_sliceAt_array_all W 22 ⟨g, 0, none⟩ ht, dig_size, hn]
  simp only [Result.andThen, slicedAt, Nat.mul_one]
  rw [if_neg (by omega)]
  congr 3

def ab : Array Value := #[.int .u8 97, .int .u8 98]
def cc : Array Value := #[.int .u8 99]
/-- The parts that 'digests' lays. -/
theorem abc_parts (w : World) : Parts (((w.alloc (.cells ab 5 (2, 3))).alloc (.cells cc 5 (1, 2))).alloc (.cells #[.slice (some ⟨w.heap.size, 0, none⟩) 2 2, .slice (some ⟨w.heap.size + 1, 0, none⟩) 1 1] 39)) (w.heap.size + 1 + 1 + 1) (some ⟨w.heap.size + 1 + 1, 0, none⟩) [[97, 98], [99]] := by
  have l1 : (w.alloc (.cells ab 5 (2, 3))).heap.size = w.heap.size + 1 := by simp
  generalize h1 : w.alloc (.cells ab 5 (2, 3)) = w1 at *
  have l2 : (w1.alloc (.cells cc 5 (1, 2))).heap.size = w.heap.size + 1 + 1 := by simp [l1]
  have e1 : ∀ j, (w1.alloc (.cells cc 5 (1, 2))).cell? ⟨w.heap.size, j, none⟩ = ab[j]? := fun j => by
    rw [World.cell?_alloc_lt _ _ ⟨w.heap.size, j, none⟩ (by rw [l1]; exact Nat.lt_succ_self _), ← h1]
    exact World.cell?_alloc_mark w ab _ _ j
  have e2 : ∀ j, (w1.alloc (.cells cc 5 (1, 2))).cell? ⟨w.heap.size + 1, j, none⟩ = cc[j]? := fun j => by
    rw [← l1]
    exact World.cell?_alloc_mark w1 cc _ _ j
  generalize w1.alloc (.cells cc 5 (1, 2)) = w2 at *
  generalize hC : (#[.slice (some ⟨w.heap.size, 0, none⟩) 2 2, .slice (some ⟨w.heap.size + 1, 0, none⟩) 1 1] : Array Value) = C
  have e3 : ∀ j, (w2.alloc (.cells C 39)).cell? ⟨w.heap.size + 1 + 1, j, none⟩ = C[j]? := fun j => by
    rw [← l2]
    exact World.cell?_alloc_mark w2 C _ _ j
  have k1 : ∀ j, (w2.alloc (.cells C 39)).cell? ⟨w.heap.size, j, none⟩ = ab[j]? := fun j => by
    rw [World.cell?_alloc_lt _ _ ⟨w.heap.size, j, none⟩ (by rw [l2]; show w.heap.size < _; omega)]; exact e1 j
  have k2 : ∀ j, (w2.alloc (.cells C 39)).cell? ⟨w.heap.size + 1, j, none⟩ = cc[j]? := fun j => by
    rw [World.cell?_alloc_lt _ _ ⟨w.heap.size + 1, j, none⟩ (by rw [l2]; exact Nat.lt_succ_self _)]; exact e2 j
  subst hC
  refine fun _ => ⟨_, 0, rfl, by omega, fun j hj => ?_⟩
  match j, hj with
  | 0, _ => exact ⟨some ⟨w.heap.size, 0, none⟩, 2, e3 0, fun _ => ⟨_, 0, rfl, by omega, fun i hi => by
      match i, hi with
      | 0, _ => exact k1 0
      | 1, _ => exact k1 1⟩, by decide, by decide⟩
  | 1, _ => exact ⟨some ⟨w.heap.size + 1, 0, none⟩, 1, e3 1, fun _ => ⟨_, 0, rfl, by omega, fun i hi => by
      match i, hi with
      | 0, _ => exact k2 0⟩, by decide, by decide⟩

end Go.Proofs.YtegfnlnbhhmkjaaDoor

namespace Go.Proofs.YtegfnlnbhhmkjaaDoor
set_option maxRecDepth 100000
open Go.ChangeShapes Go.WideShapes Go.ChangeAt Go.RowKit
set_option linter.unusedVariables false

/-- Two digests are compared. -/
theorem eql32 (l m : List UInt8) (hl : l.length = 32) (hm : m.length = 32) (W : World) :
    (binOp .eql 22 (.agg (rowOf l)) (.agg (rowOf m))).run Tryd.prog W = .ok (.bool (l == m)) W := by
  have hs : ∀ W : World, (sizeOf 5).run Tryd.prog W = .ok 1 W := fun W => by
    obtain ⟨i, hi, hz, hsize, hby⟩ := info_parts info8
    simp [sizeOf, typeInfo, hi, hsize]
  exact run_eql_bytes W 22 5 32 Tryd.underlying22 Tryd.underlying5 hs l m hl hm

/-- A slice of ints that came in. -/
def RdI (w : World) (B : Nat) (A : Option Addr) (n : Nat) : Prop :=
  0 < n → ∃ b off, A = some ⟨b, off, none⟩ ∧ b < B ∧ ∀ j, j < n → ∃ z : Int, w.cell? ⟨b, off + j, none⟩ = some (.int .i64 z) ∧ -9223372036854775808 ≤ z ∧ z ≤ 9223372036854775807
theorem RdI.below {w w' : World} {B n : Nat} {A : Option Addr} (h : RdI w B A n) (hb : Below B w w') : RdI w' B A n := fun hn => by
  obtain ⟨b, off, e, hB, hc⟩ := h hn
  refine ⟨b, off, e, hB, fun j hj => ?_⟩
  obtain ⟨z, h1, h2⟩ := hc j hj
  exact ⟨z, (hb.cell hB).trans h1, h2⟩

theorem infoS : (Tryd.prog.info? 39).map (fun i => (i.zero, i.size, i.bytes)) = some (some (.slice none 0 0), 1, 24) := by kernel_rfl

/-- The cell of a part. -/
def PartAt (w : World) (B : Nat) (v : Value) (m : List UInt8) : Prop := ∃ A c, v = .slice A m.length c ∧ Rd w B A m ∧ m.length ≤ c ∧ c ≤ maxLen
def PartsAt (w : World) (B : Nat) (vs : List Value) (ls : List (List UInt8)) : Prop := vs.length = ls.length ∧ ∀ j, j < ls.length → ∃ v, vs[j]? = some v ∧ PartAt w B v (ls.getD j [])
/-- A slice of parts of the call's own: its parts lie below B, it itself from base on. -/
def OwnP (w : World) (base B : Nat) (v : Value) (ls : List (List UInt8)) : Prop := ∃ vs, w.ownsRow base 39 1 v ls.length vs ∧ PartsAt w B vs ls

section
variable {w w' : World} {base B : Nat} {v : Value} {ls : List (List UInt8)}
theorem PartAt.keep {m : List UInt8} (h : PartAt w B v m) (hk : ∀ p : Addr, p.block < B → w'.cell? p = w.cell? p) : PartAt w' B v m := by
  obtain ⟨A, c, h1, h2, h3⟩ := h
  exact ⟨A, c, h1, h2.keep hk, h3⟩
theorem PartsAt.keep {vs : List Value} (h : PartsAt w B vs ls) (hk : ∀ p : Addr, p.block < B → w'.cell? p = w.cell? p) : PartsAt w' B vs ls := by
  refine ⟨h.1, fun j hj => ?_⟩
  obtain ⟨v, h1, h2⟩ := h.2 j hj
  exact ⟨v, h1, h2.keep hk⟩
theorem PartsAt.snoc {vs : List Value} {m : List UInt8} (h : PartsAt w B vs ls) (hp : PartAt w B v m) : PartsAt w B (vs ++ [v]) (ls ++ [m]) := by
  refine ⟨by simp [h.1], fun j hj => ?_⟩
  rcases Nat.lt_or_ge j ls.length with h1 | h1
  · obtain ⟨u, h2, h3⟩ := h.2 j h1
    refine ⟨u, by rw [List.getElem?_append_left (by rw [h.1]; exact h1)]; exact h2, ?_⟩
    have : (ls ++ [m]).getD j [] = ls.getD j [] := by simp [List.getD, List.getElem?_append_left h1]
    rw [this]; exact h3
  · simp at hj
    obtain rfl : j = ls.length := by omega
    refine ⟨v, by rw [← h.1]; simp, ?_⟩
    have : (ls ++ [m]).getD ls.length [] = m := by simp [List.getD]
    rw [this]; exact hp
theorem cell_grown {row : Option Nat} (hg : w.grownBy w' row) (hB : B ≤ w.heap.size) (hne : ∀ g, row = some g → B ≤ g) : ∀ p : Addr, p.block < B → w'.cell? p = w.cell? p := fun p hp => by
  have h := hg.block p.block (by omega) (fun e => by have := hne _ e.symm; omega)
  unfold World.cell?
  rw [h]
theorem OwnP.nil_ (w : World) (base B : Nat) : OwnP w base B (.slice none 0 0) [] := ⟨[], World.ownsRow_nil w base 39 1, rfl, fun j hj => absurd hj (by simp)⟩
theorem OwnP.drew (h : OwnP w base B v ls) : OwnP w.drew base B v ls := h
theorem OwnP.drewN (h : OwnP w base B v ls) (n : Nat) : OwnP (w.drewN n) base B v ls := h
theorem OwnP.alloc (h : OwnP w base B v ls) (hB : B ≤ w.heap.size) (o : Obj) : OwnP (w.alloc o) base B v ls := by
  obtain ⟨vs, h1, h2⟩ := h
  exact ⟨vs, World.ownsRow.alloc h1 o, h2.keep fun p hp => World.cell?_alloc_lt w o p (by omega)⟩
theorem OwnP.below {C : Nat} (h : OwnP w base B v ls) (hb : Below C w w') (hC : w.heap.size ≤ C) (hB : B ≤ w.heap.size) : OwnP w' base B v ls := by
  obtain ⟨vs, h1, h2⟩ := h
  refine ⟨vs, World.ownsRow.kept (row := none) h1 ⟨hb.os, hb.tape, hb.output, hb.size, fun k hk _ => hb.block k (by omega)⟩ ?_, h2.keep fun p hp => hb.cell (by omega)⟩
  cases h1 : v.ownBlock with
  | none => exact .inl rfl
  | some g => exact .inr (by simp)
theorem OwnP.lt (h : OwnP w base B v ls) : ∀ g, v.ownBlock = some g → base ≤ g ∧ g < w.heap.size := by
  obtain ⟨vs, h1, _⟩ := h
  exact World.ownsRow.lt h1
theorem OwnP.form (h : OwnP w base B v ls) : ∃ A c, v = .slice A ls.length c := by
  obtain ⟨vs, h1, _⟩ := h
  rcases h1.2 with ⟨hv, h0⟩ | ⟨g, cap, cur, hv, _⟩
  · exact ⟨none, 0, by rw [h0]; exact hv⟩
  · exact ⟨_, cap, hv⟩
theorem OwnP.parts (h : OwnP w base B v ls) (hB : B ≤ w.heap.size) {A : Option Addr} {n c : Nat} (hv : v = .slice A n c) : Parts w w.heap.size A ls := by
  have hlt := h.lt
  obtain ⟨vs, h1, h2⟩ := h
  intro h0
  rcases h1.2 with ⟨hv', h0'⟩ | ⟨g, cap, cur, hv', _⟩
  · omega
  · subst hv
    injection hv' with e1 e2 e3
    subst e1
    refine ⟨g, 0, rfl, (hlt g rfl).2, fun j hj => ?_⟩
    obtain ⟨u, hu, A', c', rfl, hr, hl, hm⟩ := h2.2 j hj
    subst e2
    subst e3
    have hc := World.ownsRow.cellAt h1 j (by omega)
    refine ⟨A', c', ?_, hr.more hB, hl, hm⟩
    rw [Nat.zero_add, hc, hu]

/-- append of one part. -/
theorem run_appP (h : OwnP w base B v ls) (g : Nat) (u : Value) (hu : u.oneCell' = true) (hc : w.cell? ⟨g, 0, none⟩ = some u) {m : List UInt8} (hm : PartAt w B u m) (ty : TypeId) (c : Nat) (hsz : ls.length + 1 ≤ 1000000) (hbase : base ≤ w.heap.size) (hB : B ≤ base) :
    ∃ v' w', (Builtin.append_ #[89, 89] ty #[v, .slice (some ⟨g, 0, none⟩) 1 c]).run Tryd.prog w = .ok v' w' ∧ OwnP w' base B v' (ls ++ [m]) ∧ w.grownBy w' v.ownBlock ∧ (v'.ownBlock = v.ownBlock ∨ v'.ownBlock = some w.heap.size) := by
  have hlt := h.lt
  obtain ⟨vs, h1, h2⟩ := h
  obtain ⟨i, hi, hz, hsize, hby⟩ := info_parts infoS
  obtain ⟨v', w', hrun, h3, h4, _, h5⟩ := run_append_own_at (P := Tryd.prog) w base 89 ty 39 i (.slice none 0 0) 1 24 Tryd.underlying89 hi hz hsize hby rfl (by decide) v ls.length vs h1 ⟨g, 0, none⟩ 1 c [u]
      rfl (fun j x hx => by
        match j, hx with
        | 0, hx => obtain rfl : u = x := by simpa using hx
                   exact hc) (fun x hx => by obtain rfl : x = u := by simpa using hx
                                             exact hu) (by simp only [maxLen]; omega) (by omega) hbase
  have hk := cell_grown (B := B) h4 (by omega) (fun g hg => by have := (hlt g hg).1; omega)
  refine ⟨v', w', hrun, ⟨vs ++ [u], ?_, (h2.keep hk).snoc (hm.keep hk)⟩, h4, h5⟩
  rw [List.length_append]
  exact h3
theorem wp_appP {o : Oper} {a : Act} {K : Act → World → Prop} {Q : Exit → Act → World → Prop} (s x : Operand)
    (ho : o.op = .call { callee := .builtin .append, args := #[s, x], argTypes := #[89, 89] })
    (h : OwnP w base B v ls) (hs : a.eval s = v) (g c : Nat) (hx : a.eval x = .slice (some ⟨g, 0, none⟩) 1 c) (u : Value) (hu : u.oneCell' = true) (hc : w.cell? ⟨g, 0, none⟩ = some u) {m : List UInt8} (hm : PartAt w B u m)
    (hsz : ls.length + 1 ≤ 1000000) (hbase : base ≤ w.heap.size) (hB : B ≤ base)
    (hK : ∀ A' c' w', OwnP w' base B (.slice A' (ls.length + 1) c') (ls ++ [m]) → w.grownBy w' v.ownBlock → ((Value.slice A' (ls.length + 1) c').ownBlock = v.ownBlock ∨ (Value.slice A' (ls.length + 1) c').ownBlock = some w.heap.size) → K (a.put o.dst (.slice A' (ls.length + 1) c')) w') : o.wp Tryd.prog a w K Q := by
  obtain ⟨v', w', hrun, h2, h3, h4⟩ := run_appP h g u hu hc hm o.type c hsz hbase hB
  obtain ⟨A', c', hv⟩ := h2.form
  rw [List.length_append, List.length_singleton] at hv
  subst hv
  unfold Oper.wp execOp
  simp only [ho, resolve, invoke, builtin, Sem.run_bind, Sem.run_pure, Result.andThen_ok, List.map_toArray, List.map_cons, List.map_nil, hs, hx, hrun]
  exact hK A' c' w' h2 h3 h4
theorem wpList_appP {ops : Array Oper} {rest : List Oper} {o : Oper} {a : Act} {Q : Exit → Act → World → Prop} (hgd : o.guard = none) (s x : Operand)
    (ho : o.op = .call { callee := .builtin .append, args := #[s, x], argTypes := #[89, 89] })
    (h : OwnP w base B v ls) (hs : a.eval s = v) (g c : Nat) (hx : a.eval x = .slice (some ⟨g, 0, none⟩) 1 c) (u : Value) (hu : u.oneCell' = true) (hc : w.cell? ⟨g, 0, none⟩ = some u) {m : List UInt8} (hm : PartAt w B u m)
    (hsz : ls.length + 1 ≤ 1000000) (hbase : base ≤ w.heap.size) (hB : B ≤ base)
    (hK : ∀ A' c' w', OwnP w' base B (.slice A' (ls.length + 1) c') (ls ++ [m]) → w.grownBy w' v.ownBlock → ((Value.slice A' (ls.length + 1) c').ownBlock = v.ownBlock ∨ (Value.slice A' (ls.length + 1) c').ownBlock = some w.heap.size) → wpList Tryd.prog ops Q rest (a.put o.dst (.slice A' (ls.length + 1) c')) w') : wpList Tryd.prog ops Q (o :: rest) a w :=
  wpList_plain hgd fun _ hk => wp_appP s x ho h hs g c hx u hu hc hm hsz hbase hB fun A' c' w' h2 h3 h4 => hk _ _ (hK A' c' w' h2 h3 h4)
/-- Likewise, behind a guard that says yes. -/
theorem wpList_appPg {ops : Array Oper} {rest : List Oper} {o : Oper} {a : Act} {Q : Exit → Act → World → Prop} (hw : Region.wanted o (yielded ops a.tmps) = true) (s x : Operand)
    (ho : o.op = .call { callee := .builtin .append, args := #[s, x], argTypes := #[89, 89] })
    (h : OwnP w base B v ls) (hs : a.eval s = v) (g c : Nat) (hx : a.eval x = .slice (some ⟨g, 0, none⟩) 1 c) (u : Value) (hu : u.oneCell' = true) (hc : w.cell? ⟨g, 0, none⟩ = some u) {m : List UInt8} (hm : PartAt w B u m)
    (hsz : ls.length + 1 ≤ 1000000) (hbase : base ≤ w.heap.size) (hB : B ≤ base)
    (hK : ∀ A' c' w', OwnP w' base B (.slice A' (ls.length + 1) c') (ls ++ [m]) → w.grownBy w' v.ownBlock → ((Value.slice A' (ls.length + 1) c').ownBlock = v.ownBlock ∨ (Value.slice A' (ls.length + 1) c').ownBlock = some w.heap.size) → wpList Tryd.prog ops Q rest (a.put o.dst (.slice A' (ls.length + 1) c')) w') : wpList Tryd.prog ops Q (o :: rest) a w :=
  BigFrame.wpList_want hw fun _ hk => wp_appP s x ho h hs g c hx u hu hc hm hsz hbase hB fun A' c' w' h2 h3 h4 => hk _ _ (hK A' c' w' h2 h3 h4)
end
/-- A slice of ints that came in, nil and empty ones too. -/
theorem open_intsI {H : Type} {enc : TypeId × Value → H} {P : Program} {t e : TypeId} {w : World} {b0 : Nat} {sp : Nat → Bool} {held : Bool} {r : Reach} {v : Value} {d : DataW H} {p : List MemPlace}
    (ht : P.underlying t = some (.slice e)) (he : P.underlying e = some (.int .i64)) (hc : P.cellsOf e = 1)
    (hv : Value.okWide P w r b0 t v) (h : DataW.Trod enc P w 0 sp held t v d p) :
    ∃ A n c, v = .slice A n c ∧ RdI w w.heap.size A n ∧ n ≤ maxLen := by
  obtain ⟨a0, len, cap, rfl⟩ := okWide_slice ht hv
  obtain ⟨fuel, hf⟩ := h
  rcases open_ints ht he hc hf with ⟨hcs, hx⟩ | ⟨a, len', cap', zs, hcs, _, hl, hm, hz, hx, hcell, hwz⟩
  · simp [Value.cells] at hcs
    obtain ⟨rfl, rfl, rfl⟩ := hcs
    exact ⟨none, 0, 0, rfl, fun h => absurd h (by omega), Nat.zero_le _⟩
  · simp [Value.cells] at hcs
    obtain ⟨rfl, rfl, rfl⟩ := hcs
    have hzl : len ≤ zs.length := by
      rw [hz]; split <;> omega
    refine ⟨some a, len, cap, rfl, fun h0 => ?_, Nat.le_trans hl hm⟩
    obtain ⟨b, off, spot⟩ := a
    have hc0 := hcell 0 (by omega)
    have hspot : spot = none := by simpa [Addr.add] using World.cell?_spot hc0
    subst hspot
    have hplain : ∀ j, (⟨b, off, none⟩ : Addr).add j = ⟨b, off + j, none⟩ := fun j => by unfold Addr.add; split <;> simp_all
    refine ⟨b, off, rfl, World.block_lt_of_cell? w _ hc0, fun j hj => ⟨zs.getD j 0, ?_, ?_⟩⟩
    · rw [← hplain, hcell j (by omega)]
    · exact bounds_i64 (hwz (zs.getD j 0) (by simp [List.getD, show j < zs.length by omega]))

/-- A row of one part, just laid. -/
theorem parts_one (W : World) (A : Option Addr) (n c : Nat) (L : List UInt8) (B : Nat) (hn : L.length = n) (hr : Rd W B A L) (hB : B ≤ W.heap.size) (hc : n ≤ c) (hm : c ≤ maxLen) : Parts (W.alloc (.cells #[.slice A n c] 39)) (W.heap.size + 1) (some ⟨W.heap.size, 0, none⟩) [L] := by
  subst hn
  refine fun _ => ⟨_, 0, rfl, by omega, fun j hj => ?_⟩
  obtain rfl : j = 0 := by simp at hj; omega
  exact ⟨A, c, World.cell?_alloc_mark _ _ _ _ _, (hr.alloc hB _).more (by omega), hc, hm⟩
end Go.Proofs.YtegfnlnbhhmkjaaDoor
