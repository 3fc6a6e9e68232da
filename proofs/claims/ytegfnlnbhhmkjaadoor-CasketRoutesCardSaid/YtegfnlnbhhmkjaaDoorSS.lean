/-
  Merged: S1 Sm S0 S2 S3 S4 S5.
-/
import Derived.Test.YtegfnlnbhhmkjaaDoorBr
import Derived.Test.YtegfnlnbhhmkjaaDoorAp
import Derived.Deep.QuietTactic
import Derived.BigQuiet
import Derived.Deep.RegionWith
import Derived.Test.YtegfnlnbhhmkjaaDoorLp
import Derived.Deep.DeepCutAuto
import Derived.RegionTactic
import Derived.Deep.RegionLaw
import Derived.Test.YtegfnlnbhhmkjaaDoorQt
import Derived.Laws.CopyRow
namespace Go.Proofs.YtegfnlnbhhmkjaaDoor
set_option maxRecDepth 100000
open Go.RowKit

/-- The cells of a row of words. -/
def wordsRow (l : List Int) : Array Value := (l.map (Value.int .u32)).toArray
/-- What the eight words begin as. -/
def startH : List Int := [1779033703, 3144134277, 1013904242, 2773480762, 1359893119, 2600822924, 528734635, 1541459225]

/-- A call that leaves the world alone, in a region that draws. -/
theorem q_left {P : Program} {f : FuncId} {args : Array Value} {w : World} {n : Nat} {v : Value} (h : Calls P f args (w.drewN n) fun e w' => e = .returned v ∧ w.drewN n = w') :
    Calls P f args (w.drewN n) fun e w' => e = .returned v ∧ ∃ m, w' = w.drewN m := h.mono fun _ _ hh => ⟨hh.1, n, hh.2.symm⟩

theorem startWords_any (w : World) :
    Calls Tryd.prog 46 #[] w fun e w' => e = .returned (.agg (wordsRow startH)) ∧ Below w.heap.size w w' := by
  go_enter Tryd.func46, Tryd.ntmps46
  go_wp2
  exact bodyPost_ret (v := .agg (wordsRow startH)) (by simp [results, Tryd.results46, go_sem]; rfl) rfl ⟨rfl, (Below.refl _ _).alloc (Nat.le_refl _) _⟩
theorem turned_any (x i j k : Int) (hx0 : 0 ≤ x) (hx1 : x ≤ 4294967295) (hi : 0 ≤ i ∧ i ≤ 31) (hj : 0 ≤ j ∧ j ≤ 31) (hk : 0 ≤ k ∧ k ≤ 31) (w : World) :
    Calls Tryd.prog 79 #[.int .u32 x, .int .i64 i, .int .i64 j, .int .i64 k] w fun e w' =>
      e = .returned (.int .u32 (bits .xor .u32 (bits .xor .u32 (rotn ((-i) % 32).toNat x) (rotn ((-j) % 32).toNat x)) (rotn ((-k) % 32).toNat x))) ∧ w = w' := by
  obtain ⟨hi0, hi1⟩ := hi
  obtain ⟨hj0, hj1⟩ := hj
  obtain ⟨hk0, hk1⟩ := hk
  go_enter Tryd.func79, Tryd.ntmps79
  go_wp2_with (go_at_call 85; refine (left_any _ _ (by omega) (by omega) _).mono ?_; rintro e w' ⟨rfl, rfl⟩)
  go_ret
  exact ⟨rfl, rfl⟩
theorem moved_any (x i j k : Int) (hx0 : 0 ≤ x) (hx1 : x ≤ 4294967295) (hi : 0 ≤ i ∧ i ≤ 31) (hj : 0 ≤ j ∧ j ≤ 31) (hk : 0 ≤ k ∧ k ≤ 31) (w : World) :
    Calls Tryd.prog 84 #[.int .u32 x, .int .i64 i, .int .i64 j, .int .i64 k] w fun e w' =>
      e = .returned (.int .u32 (bits .xor .u32 (bits .xor .u32 (rotn ((-i) % 32).toNat x) (rotn ((-j) % 32).toNat x)) (x / 2 ^ k.toNat))) ∧ w.drew = w' := by
  obtain ⟨hi0, hi1⟩ := hi
  obtain ⟨hj0, hj1⟩ := hj
  obtain ⟨hk0, hk1⟩ := hk
  have e1 : IntKind.i64.wrap (-i) = -i := IntWalk.i64_in _ (by omega)
  have e2 : IntKind.i64.wrap (-j) = -j := IntWalk.i64_in _ (by omega)
  go_enter Tryd.func84, Tryd.ntmps84
  go_wp2
  go_region_with (first | (go_at_call 85; refine (left_any _ _ (by omega) (by omega) _).mono ?_; rintro e w' ⟨rfl, rfl⟩))
  all_goals (go_wp2; go_ret; exact ⟨rfl, rfl⟩)
end Go.Proofs.YtegfnlnbhhmkjaaDoor

namespace Go.Proofs.YtegfnlnbhhmkjaaDoor
set_option maxRecDepth 100000
open Go.RowKit

theorem hid_ {p : Prop} (h : p) : Hid p := h

/-! ### Blocks known whole -/
/-- Block g is just these cells of type t. -/
def Bk (w : World) (g : Nat) (t : TypeId) (cs : Array Value) : Prop := w.heap[g]? = some (.cells cs t (0, 0))
section
variable {w w' : World} {g : Nat} {t : TypeId} {cs : Array Value}
theorem Bk.lt (h : Bk w g t cs) : g < w.heap.size := by
  rcases Nat.lt_or_ge g w.heap.size with hlt | hge
  · exact hlt
  · unfold Bk at h; rw [Array.getElem?_eq_none hge] at h; cases h
theorem Bk.cell (h : Bk w g t cs) (i : Nat) : w.cell? ⟨g, i, none⟩ = cs[i]? := by
  unfold Bk at h
  exact cell_of_row w g i _ _ (0, 0) h
theorem Bk.frozen (h : Bk w g t cs) (i : Nat) : w.frozen? ⟨g, i, none⟩ = false := by
  unfold Bk at h
  simp [World.frozen?, h]
theorem Bk.new (w : World) (t : TypeId) (cs : Array Value) : Bk (w.alloc (.cells cs t)) w.heap.size t cs := heap_alloc_new w _
theorem Bk.drew (h : Bk w g t cs) : Bk w.drew g t cs := h
theorem Bk.drewN (h : Bk w g t cs) (n : Nat) : Bk (w.drewN n) g t cs := h
theorem Bk.alloc (h : Bk w g t cs) (o : Obj) : Bk (w.alloc o) g t cs := (Below.heap_alloc w o g h.lt).trans h
theorem Bk.set_ (h : Bk w g t cs) (i : Nat) (u : Value) : Bk (w.setCell ⟨g, i, none⟩ u) g t (cs.setIfInBounds i u) := by
  unfold Bk at h ⊢
  simp [World.setCell, Array.getElem?_modify, h]
theorem Bk.far (h : Bk w g t cs) {p : Addr} (hp : g ≠ p.block) (u : Value) : Bk (w.setCell p u) g t cs := (Below.heap_setCell w p u g hp).trans h
theorem Bk.below {B : Nat} (h : Bk w g t cs) (hb : Below B w w') (hg : g < B) : Bk w' g t cs := (hb.block g hg).trans h
theorem Bk.grown {row : Option Nat} (h : Bk w g t cs) (hb : w.grownBy w' row) (hg : some g ≠ row) : Bk w' g t cs := (hb.block g h.lt hg).trans h
theorem Bk.rowed (h : Bk w g t cs) (cs' : Array Value) : Bk (w.setRow g cs') g t cs' := setRow_heap w g cs cs' t _ h
theorem Bk.rowfar (h : Bk w g t cs) {g' : Nat} (hne : g ≠ g') (cs' : Array Value) : Bk (w.setRow g' cs') g t cs := (setRow_other w g' g cs' hne).trans h
end
theorem grown_row {a w : World} {g : Nat} (h : a.grownBy w (some g)) (cs : Array Value) : a.grownBy (w.setRow g cs) (some g) :=
  ⟨h.os, h.tape, h.output, by simpa using h.size, fun i hi hne => (setRow_other w g i cs (fun e => hne (by rw [e]))).trans (h.block i hi hne)⟩
theorem grown_alloc {a w : World} {row : Option Nat} (h : a.grownBy w row) (o : Obj) : a.grownBy (w.alloc o) row :=
  ⟨h.os, h.tape, h.output, Nat.le_trans h.size (by simp), fun i hi hne => (Below.heap_alloc w o i (Nat.lt_of_lt_of_le hi h.size)).trans (h.block i hi hne)⟩
theorem grown_of_below {a w w' : World} {row : Option Nat} (h : a.grownBy w row) (hb : Below w.heap.size w w') : a.grownBy w' row :=
  ⟨hb.os.trans h.os, hb.tape.trans h.tape, hb.output.trans h.output, Nat.le_trans h.size hb.size, fun i hi hne => (hb.block i (Nat.lt_of_lt_of_le hi h.size)).trans (h.block i hi hne)⟩
theorem grown_drewN {a w : World} {row : Option Nat} (h : a.grownBy w row) (n : Nat) : a.grownBy (w.drewN n) row := ⟨h.os, h.tape, h.output, h.size, h.block⟩

/-! ### Rows of words -/
theorem wordsRow_size (l : List Int) : (wordsRow l).size = l.length := by simp [wordsRow]
theorem wordsRow_at (l : List Int) (i : Nat) (h : i < l.length) : (wordsRow l)[i]? = some (.int .u32 (l.getD i 0)) := by
  simp [wordsRow, List.getD, h]
theorem wordsRow_set (l : List Int) (i : Nat) (x : Int) : (wordsRow l).setIfInBounds i (.int .u32 x) = wordsRow (l.set i x) := by
  simp [wordsRow, List.map_set]
theorem getD_setI (l : List Int) (i j : Nat) (x : Int) (hi : i < l.length) : (l.set i x).getD j 0 = if i = j then x else l.getD j 0 := by
  by_cases h : i = j
  · subst h; simp [List.getD, hi]
  · simp [List.getD, h]
def zeros (n : Nat) : List Int := List.replicate n 0
theorem zeros_len (n : Nat) : (zeros n).length = n := by simp [zeros]
theorem zeros_succ (n : Nat) : zeros (n + 1) = 0 :: zeros n := by simp [zeros, List.replicate_succ]
/-- The next place of a row whose rest is noughts. -/
theorem set_next (l : List Int) (n : Nat) (x : Int) (hn : 0 < n) : (l ++ zeros n).set l.length x = (l ++ [x]) ++ zeros (n - 1) := by
  obtain ⟨m, rfl⟩ : ∃ m, n = m + 1 := ⟨n - 1, by omega⟩
  rw [zeros_succ, List.set_append_right _ _ (Nat.le_refl _)]
  simp

def ok32 (x : Int) : Prop := 0 ≤ x ∧ x ≤ 4294967295
theorem ok32_bits (op : BinOp) (x y : Int) : ok32 (bits op .u32 x y) := bounds_u32 (wf_bits op .u32 x y)
theorem ok32_mod (x : Int) : ok32 (x % 4294967296) := ⟨by omega, by omega⟩
theorem ok32_rotn {x : Int} (k : Nat) (h : ok32 x) : ok32 (rotn k x) := rotn_bd k h.1 h.2
theorem ok32_zero : ok32 0 := ⟨by decide, by decide⟩

/-! ### The schedule -/
def sx (x y : Int) : Int := bits .xor .u32 x y
def ssig0 (x : Int) : Int := sx (sx (rotn 25 x) (rotn 14 x)) (x / 2 ^ 3)
def ssig1 (x : Int) : Int := sx (sx (rotn 15 x) (rotn 13 x)) (x / 2 ^ 10)
def bsig0 (x : Int) : Int := sx (sx (rotn 30 x) (rotn 19 x)) (rotn 10 x)
def bsig1 (x : Int) : Int := sx (sx (rotn 26 x) (rotn 21 x)) (rotn 7 x)
theorem ssig0_ok (x : Int) : ok32 (ssig0 x) := by unfold ssig0 sx; exact ok32_bits _ _ _
theorem ssig1_ok (x : Int) : ok32 (ssig1 x) := by unfold ssig1 sx; exact ok32_bits _ _ _
theorem bsig0_ok (x : Int) : ok32 (bsig0 x) := by unfold bsig0 sx; exact ok32_bits _ _ _
theorem bsig1_ok (x : Int) : ok32 (bsig1 x) := by unfold bsig1 sx; exact ok32_bits _ _ _

/-- Word k of a block. -/
def wordAt (b : List UInt8) (k : Nat) : Int := (beN ((b.drop (4 * k)).take 4) : Nat)
theorem wordAt_ok (b : List UInt8) (k : Nat) : ok32 (wordAt b k) := by
  have h := beN_lt ((b.drop (4 * k)).take 4)
  have hl : ((b.drop (4 * k)).take 4).length ≤ 4 := by rw [List.length_take]; omega
  have hp : 256 ^ ((b.drop (4 * k)).take 4).length ≤ 256 ^ 4 := Nat.pow_le_pow_right (by omega) hl
  have e4 : (256 : Nat) ^ 4 = 4294967296 := by decide
  unfold wordAt ok32
  omega
def nextW (L : List Int) : Int :=
  (ssig1 (L.getD (L.length - 2) 0) + L.getD (L.length - 7) 0 + ssig0 (L.getD (L.length - 15) 0) + L.getD (L.length - 16) 0) % 4294967296
/-- The first k words of the schedule. -/
def sched (b : List UInt8) : Nat → List Int
  | 0 => []
  | k + 1 => sched b k ++ [if k < 16 then wordAt b k else nextW (sched b k)]
theorem sched_len (b : List UInt8) (k : Nat) : (sched b k).length = k := by
  induction k with
  | zero => rfl
  | succ k ih => simp [sched, ih]
theorem sched_ok (b : List UInt8) (k : Nat) : ∀ x ∈ sched b k, ok32 x := by
  induction k with
  | zero => intro x hx; cases hx
  | succ k ih =>
    intro x hx
    rw [sched, List.mem_append] at hx
    rcases hx with hx | hx
    · exact ih x hx
    · rw [List.mem_singleton] at hx
      subst hx
      split
      · exact wordAt_ok b k
      · exact ok32_mod _
theorem getD_ok {l : List Int} (h : ∀ x ∈ l, ok32 x) (i : Nat) : ok32 (l.getD i 0) := by
  by_cases hi : i < l.length
  · have e : l.getD i 0 = l[i] := by simp [List.getD, hi]
    rw [e]
    exact h _ (List.getElem_mem hi)
  · have e : l.getD i 0 = 0 := by simp [List.getD, Nat.le_of_not_lt hi]
    rw [e]
    exact ok32_zero
end Go.Proofs.YtegfnlnbhhmkjaaDoor

namespace Go.Proofs.YtegfnlnbhhmkjaaDoor
set_option maxRecDepth 100000
open Go.RowKit

theorem z64 (W : World) : (zeroValue 141).run Tryd.prog W = .ok (.agg (wordsRow (zeros 64))) W := by kernel_rfl
theorem z8 (W : World) : (zeroValue 107).run Tryd.prog W = .ok (.agg (wordsRow (zeros 8))) W := by kernel_rfl
theorem i64_ : (Tryd.prog.info? 141).map (·.size) = some 64 := by kernel_rfl
theorem i8_ : (Tryd.prog.info? 107).map (·.size) = some 8 := by kernel_rfl
theorem words_one (l : List Int) : (wordsRow l).all (·.oneCell') = true := by
  rw [Array.all_eq_true_iff_forall_mem]
  intro v hv
  simp [wordsRow] at hv
  obtain ⟨x, _, rfl⟩ := hv
  rfl

/-- The first 64 words behind the point. -/
def roundK : List Int := [
  1116352408, 1899447441, 3049323471, 3921009573, 961987163, 1508970993, 2453635748, 2870763221,
  3624381080, 310598401, 607225278, 1426881987, 1925078388, 2162078206, 2614888103, 3248222580,
  3835390401, 4022224774, 264347078, 604807628, 770255983, 1249150122, 1555081692, 1996064986,
  2554220882, 2821834349, 2952996808, 3210313671, 3336571891, 3584528711, 113926993, 338241895,
  666307205, 773529912, 1294757372, 1396182291, 1695183700, 1986661051, 2177026350, 2456956037,
  2730485921, 2820302411, 3259730800, 3345764771, 3516065817, 3600352804, 4094571909, 275423344,
  430227734, 506948616, 659060556, 883997877, 958139571, 1322822218, 1537002063, 1747873779,
  1955562222, 2024104815, 2227730452, 2361852424, 2428436474, 2756734187, 3204031479, 3329325298]
theorem roundK_len : roundK.length = 64 := rfl
theorem startH_len : startH.length = 8 := rfl
theorem roundK_ok : ∀ x ∈ roundK, ok32 x := by
  have h : roundK.all (fun x => decide (0 ≤ x) && decide (x ≤ 4294967295)) = true := by decide +kernel
  intro x hx
  have := (List.all_eq_true.1 h) x hx
  simp only [Bool.and_eq_true, decide_eq_true_eq] at this
  exact this
theorem startH_ok : ∀ x ∈ startH, ok32 x := by
  have h : startH.all (fun x => decide (0 ≤ x) && decide (x ≤ 4294967295)) = true := by decide +kernel
  intro x hx
  have := (List.all_eq_true.1 h) x hx
  simp only [Bool.and_eq_true, decide_eq_true_eq] at this
  exact this

section
variable {P : Program} {ops : Array Oper} {rest : List Oper} {o : Oper} {a : Act} {w : World} {Q : Exit → Act → World → Prop}
/-- A whole row is stored. -/
theorem wpList_put_row (hgd : o.guard = none) (ty : TypeId) (x y : Operand) (ho : o.op = .store ty x y)
    (g : Nat) (cells : Array Value) (hx : a.eval x = .pointer (some ⟨g, 0, none⟩)) (hy : a.eval y = .agg cells)
    (t : TypeId) (old : Array Value) (hg : Bk w g t old) (hi : (P.info? ty).map (·.size) = some cells.size)
    (hold : old.size = cells.size) (h1 : cells.all (·.oneCell') = true)
    (h : ∀ w', Bk w' g t cells → w.grownBy w' (some g) → w'.heap.size = w.heap.size → wpList P ops Q rest (a.put o.dst undef) w') : wpList P ops Q (o :: rest) a w :=
  wpList_store_row hgd ty x y ho g cells hx hy t old hg hi hold h1 (h _ (hg.rowed cells) (grown_row (World.grownBy.refl w _) cells) (by simp))
/-- A whole row is laid as a value. -/
theorem wpList_built (hg : o.guard = none) (t : TypeId) (parts : Array (Nat × Operand)) (ho : o.op = .build t parts) (X : Array Value)
    (hf : P.built t (parts.map fun (i, x) => (i, a.eval x)).toList = some X)
    (h : wpList P ops Q rest (a.put o.dst (.agg X)) w) : wpList P ops Q (o :: rest) a w :=
  wpList_build hg t parts ho (by rw [hf]; rfl) (by rw [hf]; exact h)
theorem step_load_row {K : Act → World → Prop} {E : Prop} (hgd : o.guard = none) (ty : TypeId) (x : Operand) (ho : o.op = .load ty x)
    (g : Nat) (hx : a.eval x = .pointer (some ⟨g, 0, none⟩)) (t : TypeId) (cs : Array Value) (hg : Bk w g t cs) (d : TypeDesc)
    (hu : P.underlying ty = some d) (hd : (match d with | .struct _ | .array _ _ => true | _ => false) = true) (hi : (P.info? ty).map (·.size) = some cs.size)
    (h : K (a.put o.dst (.agg cs)) w) : if Region.wanted o (yielded ops a.tmps) = true then Oper.wp P o a w K Q else E := by
  have hw : Region.wanted o (yielded ops a.tmps) = true := by simp [Region.wanted, hgd]
  rw [if_pos hw]
  exact wp_load_row ty x ho g hx t cs (0, 0) d hg hu hd hi h
theorem step_put_row {K : Act → World → Prop} {E : Prop} (hgd : o.guard = none) (ty : TypeId) (x y : Operand) (ho : o.op = .store ty x y)
    (g : Nat) (cells : Array Value) (hx : a.eval x = .pointer (some ⟨g, 0, none⟩)) (hy : a.eval y = .agg cells)
    (t : TypeId) (old : Array Value) (hg : Bk w g t old) (hi : (P.info? ty).map (·.size) = some cells.size)
    (hold : old.size = cells.size) (h1 : cells.all (·.oneCell') = true)
    (h : ∀ w', Bk w' g t cells → w.grownBy w' (some g) → w'.heap.size = w.heap.size → K (a.put o.dst undef) w') : if Region.wanted o (yielded ops a.tmps) = true then Oper.wp P o a w K Q else E := by
  have hw : Region.wanted o (yielded ops a.tmps) = true := by simp [Region.wanted, hgd]
  rw [if_pos hw]
  exact wp_store_row ty x y ho g cells hx hy t old hg hi hold h1 (h _ (hg.rowed cells) (grown_row (World.grownBy.refl w _) cells) (by simp))
end

/-- Two results that lie in memory. -/
theorem results_cells2 {P : Program} {fn : Func} {p q : Tmp} {ty ty' : TypeId} (h : fn.results = #[.cell p ty, .cell q ty']) (tmps : Array Value) (w : World) (g g' : Nat) {v v' : Value}
    (hp : tmps.getD p undef = .pointer (some ⟨g, 0, none⟩)) (hq : tmps.getD q undef = .pointer (some ⟨g', 0, none⟩))
    (h1 : (loadVar ty ⟨g, 0, none⟩).run P w = .ok v w) (h2 : (loadVar ty' ⟨g', 0, none⟩).run P w = .ok v' w) :
    (results fn tmps).run P w = .ok (.tuple #[v, v']) w := by
  have hp' : tmps[p]?.getD undef = .pointer (some ⟨g, 0, none⟩) := by simpa using hp
  have hq' : tmps[q]?.getD undef = .pointer (some ⟨g', 0, none⟩) := by simpa using hq
  simp [results, h, hp', hq', asAddr, h1, h2]

end Go.Proofs.YtegfnlnbhhmkjaaDoor

namespace Go.Proofs.YtegfnlnbhhmkjaaDoor
set_option maxRecDepth 100000
open Go.RowKit

theorem rd_of_bk {w : World} {g : Nat} {t : TypeId} {b : List UInt8} (h : Bk w g t (rowOf b)) {B : Nat} (hB : g < B) : Rd w B (some ⟨g, 0, none⟩) b := fun _ =>
  ⟨g, 0, rfl, hB, fun j hj => by rw [Nat.zero_add, h.cell j, rowOf_at b j hj]⟩

theorem nextW_eq (L : List Int) : nextW L = (ssig1 (L.getD (L.length - 2) 0) + L.getD (L.length - 7) 0 + ssig0 (L.getD (L.length - 15) 0) + L.getD (L.length - 16) 0) % 4294967296 := rfl

/-- A part of an array of bytes in memory, as a slice. -/
theorem slice_arr (g l h : Nat) (zl zh : Int) (hl : zl = (l : Int)) (hh : zh = (h : Int)) (h1 : l ≤ h) (h2 : h ≤ 64) (h3 : l < 64) (W : World) :
    (Instr.sliceAt 109 (.pointer (some ⟨g, 0, none⟩)) (some (.int .i64 zl)) (some (.int .i64 zh)) none).run Tryd.prog W = .ok (.slice (some ⟨g, l, none⟩) (h - l) (64 - l)) W := by
  subst hl hh
  have he : Tryd.prog.elem 109 = 5 := by kernel_rfl
  have hn : Tryd.prog.arrayLen 109 = 64 := by kernel_rfl
  have ht : Tryd.prog.underlying 109 = some (.array (Tryd.prog.arrayLen 109) (Tryd.prog.elem 109)) := by rw [he, hn]; exact Tryd.underlying109
  rw [run_sliceAt_array_lh W 109 ⟨g, 0, none⟩ ht .i64 .i64 l h (by omega) (by omega) (by rw [hn]; omega)]
  have hs : (sizeOf (Tryd.prog.elem 109)).run Tryd.prog W = .ok 1 W := by
    rw [he]
    obtain ⟨i, hi, hz, hsize, hby⟩ := info_parts info8
    simp [sizeOf, typeInfo, hi, hsize]
  rw [hs, hn]
  simp only [Result.andThen, slicedAt, Int.toNat_natCast, Nat.mul_one]
  rw [if_neg (by omega)]
  congr 3
  unfold Addr.add
  split
  · congr 1; omega
  · simp

/-- The row of the schedule as it lies behind k words. -/
def schedRow (b : List UInt8) (k : Nat) : List Int := sched b k ++ zeros (64 - k)
theorem schedRow_len (b : List UInt8) (k : Nat) (hk : k ≤ 64) : (schedRow b k).length = 64 := by
  unfold schedRow; rw [List.length_append, sched_len, zeros_len]; omega
theorem schedRow_set (b : List UInt8) (k : Nat) (hk : k < 64) (x : Int) (hx : x = if k < 16 then wordAt b k else nextW (sched b k)) : (schedRow b k).set k x = schedRow b (k + 1) := by
  have h := set_next (sched b k) (64 - k) x (by omega)
  rw [sched_len] at h
  unfold schedRow
  rw [h, sched, hx, Nat.sub_sub]
theorem schedRow_get (b : List UInt8) (k i : Nat) (hi : i < k) : (schedRow b k).getD i 0 = (sched b k).getD i 0 := by
  unfold schedRow
  simp only [List.getD]
  rw [List.getElem?_append_left (by rw [sched_len]; exact hi)]

set_option maxRecDepth 100000 in
set_option maxHeartbeats 4000000 in
theorem sched_any (b : List UInt8) (hb : b.length = 64) (w : World) :
    Calls Tryd.prog 78 #[.agg (rowOf b)] w fun e w' => e = .returned (.agg (wordsRow (sched b 64))) ∧ Below w.heap.size w w' := by
  have hz := z64
  have HL : Hid (b.length = 64) := hb
  have a0 : Bk (((w.alloc (.cells (rowOf b) 109)).alloc (.cells (wordsRow (zeros 64)) 141)).alloc (.cells (wordsRow (zeros 64)) 141)) w.heap.size 109 (rowOf b) := ((Bk.new w _ _).alloc _).alloc _
  have a1 : Bk (((w.alloc (.cells (rowOf b) 109)).alloc (.cells (wordsRow (zeros 64)) 141)).alloc (.cells (wordsRow (zeros 64)) 141)) (w.heap.size + 1) 141 (wordsRow (zeros 64)) := by simpa using (Bk.new (w.alloc (.cells (rowOf b) 109)) 141 (wordsRow (zeros 64))).alloc (.cells (wordsRow (zeros 64)) 141)
  have a2 : Bk (((w.alloc (.cells (rowOf b) 109)).alloc (.cells (wordsRow (zeros 64)) 141)).alloc (.cells (wordsRow (zeros 64)) 141)) (w.heap.size + 1 + 1) 141 (wordsRow (zeros 64)) := by simpa using Bk.new ((w.alloc (.cells (rowOf b) 109)).alloc (.cells (wordsRow (zeros 64)) 141)) 141 (wordsRow (zeros 64))
  have hw3 : Below w.heap.size w (((w.alloc (.cells (rowOf b) 109)).alloc (.cells (wordsRow (zeros 64)) 141)).alloc (.cells (wordsRow (zeros 64)) 141)) := (((Below.refl _ _).alloc (Nat.le_refl _) _).alloc (by simp) _).alloc (by simp; omega) _
  have A0 := hid_ a0
  have A1 := hid_ a1
  have A2 := hid_ a2
  have HW := hid_ hw3
  clear hb a0 a1 a2 hw3
  go_enter Tryd.func78, Tryd.ntmps78
  go_wp2
  go_loopw [4, 6] (fun _ i wr => ∃ k : Nat, k ≤ 16 ∧ i = .int .i64 k ∧ Bk wr w.heap.size 109 (rowOf b) ∧ Bk wr (w.heap.size + 1) 141 (wordsRow (zeros 64)) ∧ Bk wr (w.heap.size + 1 + 1) 141 (wordsRow (schedRow b k)) ∧ Below w.heap.size w wr) (fun _ i _ => 16 - (intOf i).toNat)
  case atStart => exact ⟨0, by omega, rfl, A0.out, A1.out, A2.out, HW.out⟩
  case round =>
    obtain ⟨k, hk, rfl, h0, h1, h2, hb⟩ := hrel
    have H0 := hid_ h0
    have H1 := hid_ h1
    have H2 := hid_ h2
    have HB := hid_ hb
    clear h0 h1 h2 hb A0 A1 A2 HW
    by_cases hlt : k < 16
    · have hlen : (((b.drop (4 * k)).take 4).length) = 4 := by rw [List.length_take, List.length_drop, HL.out]; omega
      have hrd := ((rd_of_bk H0.out (Nat.lt_succ_self _)).drop (4 * k)).take 4
      rw [Nat.zero_add] at hrd
      have c1 := high32_yes (some ⟨w.heap.size, 4 * k, none⟩) (w.heap.size + 1) (64 - 4 * k) ((b.drop (4 * k)).take 4) wr hlen hrd
      have hwk : ((beN ((b.drop (4 * k)).take 4) : Nat) : Int) = wordAt b k := rfl
      rw [hwk] at c1
      obtain ⟨x, hx⟩ : ∃ x, Hid (wordAt b k = x) := ⟨_, rfl⟩
      rw [hx.out] at c1
      have hc := H2.out.cell k
      rw [wordsRow_at _ _ (by rw [schedRow_len b k (by omega)]; omega)] at hc
      have hf := H2.out.frozen k
      have hset := H2.out.set_ k (.int .u32 x)
      rw [wordsRow_set, schedRow_set b k (by omega) x (by rw [if_pos hlt, hx.out])] at hset
      have HS := hid_ hset
      have hsl := slice_arr w.heap.size (4 * k) (4 * (k + 1)) (4 * (k : Int)) (4 * ((k : Int) + 1)) (by omega) (by omega) (by omega) (by omega) (by omega)
      rw [show 4 * (k + 1) - 4 * k = 4 by omega] at hsl
      clear hlen hrd hwk hset
      go_wp2_with (go_at_call 83; refine c1.mono ?_; rintro e w' ⟨rfl, rfl⟩)
      go_roundw
      case rel => exact ⟨k + 1, by omega, by go_num, H0.out.far (by simp <;> omega) _, H1.out.far (by simp <;> omega) _, HS.out, HB.out.setCell (by simp <;> omega) _⟩
      case measure => simp [intOf]; omega
    · obtain rfl : k = 16 := by omega
      go_wp2
      have HB16 : Hid (Below w.heap.size w wr) := HB
      clear HB
      go_loopw [5] (fun i wq => ∃ t : Nat, 16 ≤ t ∧ t ≤ 64 ∧ i = .int .i64 t ∧ Bk wq (w.heap.size + 1) 141 (wordsRow (zeros 64)) ∧ Bk wq (w.heap.size + 1 + 1) 141 (wordsRow (schedRow b t)) ∧ Below w.heap.size w wq) (fun i _ => 64 - (intOf i).toNat)
      case atStart => exact ⟨16, by omega, by omega, rfl, H1.out, H2.out, HB16.out⟩
      case round =>
        obtain ⟨t, ht1, ht2, rfl, g1, g2, gb⟩ := hrel
        have G1 := hid_ g1
        have G2 := hid_ g2
        have GB := hid_ gb
        clear g1 g2 gb H0 H1 H2 HB16 hlt
        by_cases hlt : t < 64
        · have hrl := schedRow_len b t (by omega)
          have l2 := G2.out.cell (t - 2)
          have l7 := G2.out.cell (t - 7)
          have l15 := G2.out.cell (t - 15)
          have l16 := G2.out.cell (t - 16)
          have lt := G2.out.cell t
          have ft := G2.out.frozen t
          rw [wordsRow_at _ _ (by omega), schedRow_get b t _ (by omega)] at l2 l7 l15 l16
          rw [wordsRow_at _ _ (by omega)] at lt
          have o2 := getD_ok (sched_ok b t) (t - 2)
          have o7 := getD_ok (sched_ok b t) (t - 7)
          have o15 := getD_ok (sched_ok b t) (t - 15)
          have o16 := getD_ok (sched_ok b t) (t - 16)
          have HN := hid_ (nextW_eq (sched b t))
          rw [sched_len] at HN
          generalize (sched b t).getD (t - 2) 0 = x2 at l2 o2 HN
          generalize (sched b t).getD (t - 7) 0 = x7 at l7 o7 HN
          generalize (sched b t).getD (t - 15) 0 = x15 at l15 o15 HN
          generalize (sched b t).getD (t - 16) 0 = x16 at l16 o16 HN
          generalize (schedRow b t).getD t 0 = y at lt
          obtain ⟨o2a, o2b⟩ := o2
          obtain ⟨o7a, o7b⟩ := o7
          obtain ⟨o15a, o15b⟩ := o15
          obtain ⟨o16a, o16b⟩ := o16
          have c1 : ∀ W : World, Calls Tryd.prog 84 #[.int .u32 x2, .int .i64 17, .int .i64 19, .int .i64 10] W fun e w' => e = .returned (.int .u32 (ssig1 x2)) ∧ W.drew = w' := fun W => moved_any x2 17 19 10 o2a o2b (by decide) (by decide) (by decide) W
          have c2 : ∀ W : World, Calls Tryd.prog 84 #[.int .u32 x15, .int .i64 7, .int .i64 18, .int .i64 3] W fun e w' => e = .returned (.int .u32 (ssig0 x15)) ∧ W.drew = w' := fun W => moved_any x15 7 18 3 o15a o15b (by decide) (by decide) (by decide) W
          obtain ⟨s1a, s1b⟩ := ssig1_ok x2
          obtain ⟨s0a, s0b⟩ := ssig0_ok x15
          clear hrl
          go_wp2
          have w2 : IntKind.i64.wrap ((t : Int) - 2) = (t : Int) - 2 := IntWalk.i64_in _ (by omega)
          have b2 : (0 : Int) ≤ (t : Int) - 2 := by omega
          have d2 : (2 : Int) ≤ (t : Int) := by omega
          have u2 : (t : Int) - 2 < 64 := by omega
          have n2 : ((t : Int) - 2).toNat = t - 2 := by omega
          have w7 : IntKind.i64.wrap ((t : Int) - 7) = (t : Int) - 7 := IntWalk.i64_in _ (by omega)
          have b7 : (0 : Int) ≤ (t : Int) - 7 := by omega
          have d7 : (7 : Int) ≤ (t : Int) := by omega
          have u7 : (t : Int) - 7 < 64 := by omega
          have n7 : ((t : Int) - 7).toNat = t - 7 := by omega
          have w15 : IntKind.i64.wrap ((t : Int) - 15) = (t : Int) - 15 := IntWalk.i64_in _ (by omega)
          have b15 : (0 : Int) ≤ (t : Int) - 15 := by omega
          have d15 : (15 : Int) ≤ (t : Int) := by omega
          have u15 : (t : Int) - 15 < 64 := by omega
          have n15 : ((t : Int) - 15).toNat = t - 15 := by omega
          have w16 : IntKind.i64.wrap ((t : Int) - 16) = (t : Int) - 16 := IntWalk.i64_in _ (by omega)
          have b16 : (0 : Int) ≤ (t : Int) - 16 := by omega
          have d16 : (16 : Int) ≤ (t : Int) := by omega
          have u16 : (t : Int) - 16 < 64 := by omega
          have n16 : ((t : Int) - 16).toNat = t - 16 := by omega
          have t0 : (0 : Int) ≤ (t : Int) := by omega
          have t64 : (t : Int) < 64 := by omega
          refine region_quiet_tail_lit 23 (by kernel_rfl) (by kernel_rfl) ?_
          simp only [List.take_succ_cons, List.take_zero]
          repeat (go_big_quiet_step ((first | (go_at_call 84; with_reducible exact q_drew (c1 _)) | (go_at_call 84; with_reducible exact q_drew (c2 _)))))
          refine wpQuiet_nil ?_
          intro w' hw'
          obtain ⟨nq, rfl⟩ := hw'
          simp only [List.drop_succ_cons, List.drop_zero]
          clear w2 w7 w15 w16 b2 b7 b15 b16 d2 d7 d15 d16 u2 u7 u15 u16 n2 n7 n15 n16 t0 t64 l2 l7 l15 l16
          have hset := G2.out.set_ t (.int .u32 (nextW (sched b t)))
          rw [wordsRow_set, schedRow_set b t hlt _ (by rw [if_neg (by omega)])] at hset
          rw [HN.out] at hset
          have HS := hid_ hset
          clear hset
          go_wp2
          go_roundw
          case rel => exact ⟨t + 1, by omega, by omega, by go_num, (G1.out.drewN nq).far (by simp <;> omega) _, HS.out, (below_drewN GB.out nq).setCell (by simp <;> omega) _⟩
          case measure => simp [intOf]; omega
        · obtain rfl : t = 64 := by omega
          have hr64 : schedRow b 64 = sched b 64 := by unfold schedRow; simp [zeros]
          have e64 : (Tryd.prog.info? 141).map (·.size) = some (wordsRow (sched b 64)).size := by rw [wordsRow_size, sched_len]; exact i64_
          have q64 : (wordsRow (zeros 64)).size = (wordsRow (sched b 64)).size := by rw [wordsRow_size, wordsRow_size, sched_len, zeros_len]
          have E64 := hid_ e64
          have Q64 := hid_ q64
          clear e64 q64
          have G2' := G2.out
          rw [hr64] at G2'
          go_wp2_with (first
            | (refine wpList_load_row rfl 141 _ rfl (w.heap.size + 1 + 1) rfl 141 (wordsRow (sched b 64)) (0, 0) _ G2' Tryd.underlying141 rfl E64.out ?_)
            | (refine wpList_put_row rfl 141 _ _ rfl (w.heap.size + 1) (wordsRow (sched b 64)) rfl rfl 141 (wordsRow (zeros 64)) G1.out E64.out Q64.out (words_one _) ?_; intro W9 k9 g9 s9))
          exact bodyPost_ret (results_cell_row Tryd.results78 _ _ (w.heap.size + 1) 141 _ (0, 0) _ rfl k9 Tryd.underlying141 rfl E64.out) rfl ⟨rfl, GB.out.grown g9 (by have := G1.out.lt; omega) (fun k hk => by injection hk with hk; omega)⟩
end Go.Proofs.YtegfnlnbhhmkjaaDoor

namespace Go.Proofs.YtegfnlnbhhmkjaaDoor
set_option maxRecDepth 100000
open Go.RowKit

/-! ### The rounds, as plain functions -/
structure S8 where
  a : Int
  b : Int
  c : Int
  d : Int
  e : Int
  f : Int
  g : Int
  h : Int
def S8.list (s : S8) : List Int := [s.a, s.b, s.c, s.d, s.e, s.f, s.g, s.h]
structure S8.ok (s : S8) : Prop where
  a : ok32 s.a
  b : ok32 s.b
  c : ok32 s.c
  d : ok32 s.d
  e : ok32 s.e
  f : ok32 s.f
  g : ok32 s.g
  h : ok32 s.h
theorem S8.list_ok {s : S8} (h : s.ok) : ∀ x ∈ s.list, ok32 x := by
  intro x hx
  simp only [S8.list, List.mem_cons, List.not_mem_nil, or_false] at hx
  rcases hx with rfl | rfl | rfl | rfl | rfl | rfl | rfl | rfl
  · exact h.a
  · exact h.b
  · exact h.c
  · exact h.d
  · exact h.e
  · exact h.f
  · exact h.g
  · exact h.h
def sa (x y : Int) : Int := bits .and .u32 x y
theorem sa_ok (x y : Int) : ok32 (sa x y) := by unfold sa; exact ok32_bits _ _ _
theorem sx_ok (x y : Int) : ok32 (sx x y) := by unfold sx; exact ok32_bits _ _ _
def nt (e : Int) : Int := bits .xor .u32 (if IntKind.u32.signed = true then -1 else IntKind.u32.max) e
def ch (e f g : Int) : Int := sx (sa e f) (sa (nt e) g)
def maj (a b c : Int) : Int := sx (sx (sa a b) (sa a c)) (sa b c)
theorem ch_ok (e f g : Int) : ok32 (ch e f g) := sx_ok _ _
theorem maj_ok (a b c : Int) : ok32 (maj a b c) := sx_ok _ _
def t1 (s : S8) (k w : Int) : Int := (s.h + bsig1 s.e + ch s.e s.f s.g + k + w) % 4294967296
def t2 (s : S8) : Int := (bsig0 s.a + maj s.a s.b s.c) % 4294967296
def rnd (s : S8) (k w : Int) : S8 := ⟨(t1 s k w + t2 s) % 4294967296, s.a, s.b, s.c, (s.d + t1 s k w) % 4294967296, s.e, s.f, s.g⟩
theorem rnd_ok {s : S8} (h : s.ok) (k w : Int) : (rnd s k w).ok := ⟨ok32_mod _, h.a, h.b, h.c, ok32_mod _, h.e, h.f, h.g⟩
def rounds (s : S8) (W : List Int) : Nat → S8
  | 0 => s
  | t + 1 => rnd (rounds s W t) (roundK.getD t 0) (W.getD t 0)
theorem rounds_ok {s : S8} (h : s.ok) (W : List Int) : ∀ t, (rounds s W t).ok
  | 0 => h
  | t + 1 => rnd_ok (rounds_ok h W t) _ _
def addS (s r : S8) : S8 := ⟨(s.a + r.a) % 4294967296, (s.b + r.b) % 4294967296, (s.c + r.c) % 4294967296, (s.d + r.d) % 4294967296, (s.e + r.e) % 4294967296, (s.f + r.f) % 4294967296, (s.g + r.g) % 4294967296, (s.h + r.h) % 4294967296⟩
theorem addS_ok (s r : S8) : (addS s r).ok := ⟨ok32_mod _, ok32_mod _, ok32_mod _, ok32_mod _, ok32_mod _, ok32_mod _, ok32_mod _, ok32_mod _⟩
/-- A block goes into the words. -/
def comp (s : S8) (b : List UInt8) : S8 := addS s (rounds s (sched b 64) 64)

/-! ### The message in memory -/
def msgCells (ws : List Int) (blk : List UInt8) (held count : Int) : Array Value := wordsRow ws ++ (rowOf blk ++ #[.int .i64 held, .int .u64 count])
theorem msg_size {ws : List Int} {blk : List UInt8} (held count : Int) (h8 : ws.length = 8) (h64 : blk.length = 64) : (msgCells ws blk held count).size = 74 := by
  simp [msgCells, wordsRow_size, rowOf_size, h8, h64]
theorem msg_word {ws : List Int} (blk : List UInt8) (held count : Int) (i : Nat) (hi : i < ws.length) : (msgCells ws blk held count)[i]? = some (.int .u32 (ws.getD i 0)) := by
  unfold msgCells
  rw [Array.getElem?_append_left (by rw [wordsRow_size]; exact hi), wordsRow_at _ _ hi]
theorem msg_byte {ws : List Int} {blk : List UInt8} (held count : Int) (i : Nat) (h8 : ws.length = 8) (hi : i < blk.length) : (msgCells ws blk held count)[8 + i]? = (rowOf blk)[i]? := by
  unfold msgCells
  rw [Array.getElem?_append_right (by rw [wordsRow_size, h8]; omega), wordsRow_size, h8, Nat.add_sub_cancel_left, Array.getElem?_append_left (by rw [rowOf_size]; exact hi)]
theorem msg_held {ws : List Int} {blk : List UInt8} (held count : Int) (h8 : ws.length = 8) (h64 : blk.length = 64) : (msgCells ws blk held count)[72]? = some (.int .i64 held) := by
  unfold msgCells
  rw [Array.getElem?_append_right (by rw [wordsRow_size, h8]; omega), wordsRow_size, h8, Array.getElem?_append_right (by rw [rowOf_size, h64]; omega), rowOf_size, h64]
  rfl
theorem msg_count {ws : List Int} {blk : List UInt8} (held count : Int) (h8 : ws.length = 8) (h64 : blk.length = 64) : (msgCells ws blk held count)[73]? = some (.int .u64 count) := by
  unfold msgCells
  rw [Array.getElem?_append_right (by rw [wordsRow_size, h8]; omega), wordsRow_size, h8, Array.getElem?_append_right (by rw [rowOf_size, h64]; omega), rowOf_size, h64]
  rfl
theorem msg_setword {ws : List Int} (blk : List UInt8) (held count : Int) (i : Nat) (x : Int) (hi : i < ws.length) : (msgCells ws blk held count).setIfInBounds i (.int .u32 x) = msgCells (ws.set i x) blk held count := by
  unfold msgCells
  rw [← wordsRow_set, Array.setIfInBounds_append_left (by rw [wordsRow_size]; exact hi)]

theorem msg_setcount {ws : List Int} {blk : List UInt8} (held count x : Int) (h8 : ws.length = 8) (h64 : blk.length = 64) : (msgCells ws blk held count).setIfInBounds 73 (.int .u64 x) = msgCells ws blk held x := by
  unfold msgCells
  rw [Array.setIfInBounds_append_right (by rw [wordsRow_size, h8]; omega), wordsRow_size, h8, Array.setIfInBounds_append_right (by rw [rowOf_size, h64]; omega), rowOf_size, h64]
  rfl
theorem msg_setheld {ws : List Int} {blk : List UInt8} (held count x : Int) (h8 : ws.length = 8) (h64 : blk.length = 64) : (msgCells ws blk held count).setIfInBounds 72 (.int .i64 x) = msgCells ws blk x count := by
  unfold msgCells
  rw [Array.setIfInBounds_append_right (by rw [wordsRow_size, h8]; omega), wordsRow_size, h8, Array.setIfInBounds_append_right (by rw [rowOf_size, h64]; omega), rowOf_size, h64]
  rfl
/-- The table of the program's own. -/
def Tab (w : World) : Prop := ∀ t, t < 64 → w.cell? ⟨0, t, none⟩ = some (.int .u32 (roundK.getD t 0))

section
variable {P : Program} {ops : Array Oper} {rest : List Oper} {o : Oper} {a : Act} {w : World} {Q : Exit → Act → World → Prop}
/-- A part of a block, read as a whole. -/
theorem wpList_load_sub (hgd : o.guard = none) (ty : TypeId) (x : Operand) (ho : o.op = .load ty x)
    (g off : Nat) (hx : a.eval x = .pointer (some ⟨g, off, none⟩)) (cs : Array Value) (hc : ∀ j, j < cs.size → w.cell? ⟨g, off + j, none⟩ = cs[j]?) (d : TypeDesc)
    (hu : P.underlying ty = some d) (hd : (match d with | .struct _ | .array _ _ => true | _ => false) = true) (hi : (P.info? ty).map (·.size) = some cs.size)
    (h : wpList P ops Q rest (a.put o.dst (.agg cs)) w) : wpList P ops Q (o :: rest) a w := by
  have hl : (loadCells ⟨g, off, none⟩ cs.toList.length).run P w = .ok cs.toList.toArray w :=
    run_loadCells_list (P := P) w ⟨g, off, none⟩ cs.toList (fun j v hv => by
      have hadd : (⟨g, off, none⟩ : Addr).add j = ⟨g, off + j, none⟩ := by unfold Addr.add; split <;> simp_all
      have hj : j < cs.size := by
        have := (List.getElem?_eq_some_iff.1 hv).1
        simpa using this
      rw [hadd, hc j hj]
      simpa using hv)
  have hrun : (loadVar ty ⟨g, off, none⟩).run P w = .ok (.agg cs) w := by
    cases hq : P.info? ty with
    | none => simp [hq] at hi
    | some i =>
      have hs : i.size = cs.size := by simpa [hq] using hi
      have hagg : (isAgg ty).run P w = .ok true w := by
        unfold isAgg
        rw [Sem.run_bind, run_underlying hu w]
        cases d <;> simp_all
      simp only [Array.length_toList, Array.toArray_toList] at hl
      simp [loadVar, Sem.run_bind, hagg, sizeOf, typeInfo, hq, hs, hl]
  refine wpList_plain hgd fun _ hK => ?_
  unfold Oper.wp execOp
  simp only [ho, hx, Instr.loadAt, Instr.sureAddr, Sem.run_bind, Sem.run_pure, Result.andThen_ok, hrun]
  exact hK _ _ h
end

/-- The words behind k additions. -/
def mixed (s r : S8) (k : Nat) : List Int := (addS s r).list.take k ++ s.list.drop k
theorem mixed_len (s r : S8) (k : Nat) : (mixed s r k).length = 8 := by
  have h1 : (addS s r).list.length = 8 := rfl
  have h2 : s.list.length = 8 := rfl
  unfold mixed
  rw [List.length_append, List.length_take, List.length_drop, h1, h2]
  omega
theorem mixed_get (s r : S8) (k : Nat) (hk : k < 8) : (mixed s r k).getD k 0 = s.list.getD k 0 := by
  match k, hk with
  | 0, _ | 1, _ | 2, _ | 3, _ | 4, _ | 5, _ | 6, _ | 7, _ => rfl
theorem mixed_set (s r : S8) (k : Nat) (hk : k < 8) : (mixed s r k).set k ((s.list.getD k 0 + r.list.getD k 0) % 4294967296) = mixed s r (k + 1) := by
  match k, hk with
  | 0, _ | 1, _ | 2, _ | 3, _ | 4, _ | 5, _ | 6, _ | 7, _ => rfl
theorem idx8 (r : S8) (k : Nat) (hk : k < 8) (V : World) :
    (Instr.index 107 (.agg #[.int .u32 r.a, .int .u32 r.b, .int .u32 r.c, .int .u32 r.d, .int .u32 r.e, .int .u32 r.f, .int .u32 r.g, .int .u32 r.h]) (.int .i64 (k : Int))).run Tryd.prog V = .ok (.int .u32 (r.list.getD k 0)) V := by
  rcases (by omega : k = 0 ∨ k = 1 ∨ k = 2 ∨ k = 3 ∨ k = 4 ∨ k = 5 ∨ k = 6 ∨ k = 7) with rfl | rfl | rfl | rfl | rfl | rfl | rfl | rfl <;> kernel_rfl

theorem i64b_ : (Tryd.prog.info? 109).map (·.size) = some 64 := by kernel_rfl

set_option maxRecDepth 100000 in
set_option maxHeartbeats 1000000 in
theorem mix_any (g : Nat) (s : S8) (blk : List UInt8) (held count : Int) (hs : s.ok) (h64 : blk.length = 64) (w : World) (hm : Bk w g 111 (msgCells s.list blk held count)) (ht : Tab w) (hg0 : g ≠ 0) (hg1 : 0 < w.heap.size) :
    Calls Tryd.prog 64 #[.pointer (some ⟨g, 0, none⟩)] w fun e w' => e = .returned (.tuple #[]) ∧ Bk w' g 111 (msgCells (comp s blk).list blk held count) ∧ w.grownBy w' (some g) := by
  have hz := z64
  have e64b : (Tryd.prog.info? 109).map (·.size) = some (rowOf blk).size := by rw [rowOf_size, h64]; exact i64b_
  have hcb : ∀ j, j < (rowOf blk).size → w.cell? ⟨g, 8 + j, none⟩ = (rowOf blk)[j]? := fun j hj => by
    rw [rowOf_size] at hj
    rw [hm.cell, msg_byte held count j rfl hj]
  have HM := hid_ hm
  have HT := hid_ ht
  have HCB := hid_ hcb
  have HE := hid_ e64b
  clear hm ht hcb e64b
  have c0 := sched_any blk h64 w
  obtain ⟨W, hW⟩ : ∃ W, Hid (sched blk 64 = W) := ⟨_, rfl⟩
  have hWl := sched_len blk 64
  have hWo := sched_ok blk 64
  rw [hW.out] at c0 hWl hWo
  have e64 : (Tryd.prog.info? 141).map (·.size) = some (wordsRow W).size := by rw [wordsRow_size, hWl]; exact i64_
  have q64 : (wordsRow (zeros 64)).size = (wordsRow W).size := by rw [wordsRow_size, wordsRow_size, hWl, zeros_len]
  have E64 := hid_ e64
  have Q64 := hid_ q64
  have HWL := hid_ hWl
  have HWO := hid_ hWo
  clear e64 q64 hWl hWo
  go_enter Tryd.func64, Tryd.ntmps64
  go_wp2_with (first
    | (refine wpList_load_sub rfl 109 (.tmp 18) rfl g 8 rfl (rowOf blk) HCB.out _ Tryd.underlying109 rfl HE.out ?_)
    | (go_at_call 78; ((with_reducible refine c0.mono ?_); rintro e w1 ⟨rfl, hb1⟩))
    | (refine wpList_put_row rfl 141 (.tmp 2) (.tmp 20) rfl w1.heap.size (wordsRow W) rfl rfl 141 (wordsRow (zeros 64)) (Bk.new w1 _ _) E64.out Q64.out (words_one _) ?_; intro w2 k2 g2 s2))
  have sz1 := hb1.size
  have gw2 : w.grownBy w2 (some g) := by
    have x1 := grown_alloc (grown_of_below (World.grownBy.refl w (some g)) hb1) (.cells (wordsRow (zeros 64)) 141)
    exact ⟨g2.os.trans x1.os, g2.tape.trans x1.tape, g2.output.trans x1.output, Nat.le_trans x1.size g2.size, fun i hi hne => (g2.block i (by simp; omega) (fun e => by injection e with e; omega)).trans (x1.block i hi hne)⟩
  have M2 : Bk w2 g 111 (msgCells s.list blk held count) := ((HM.out.below hb1 HM.out.lt).alloc _).grown g2 (fun e => by injection e with e; have := HM.out.lt; omega)
  have T2 : Tab w2 := fun t h => by
    have h0 := HT.out t h
    rw [← h0]
    exact World.cell?_of_block (gw2.block _ hg1 (fun e => by injection e with e; exact hg0 e.symm))
  have hgn : g ≠ w1.heap.size := by have := HM.out.lt; omega
  have ea : w2.cell? ⟨g, 0, none⟩ = some (.int .u32 s.a) := by rw [M2.cell, msg_word _ _ _ 0 (by simp [S8.list])]; rfl
  have eb : w2.cell? ⟨g, 1, none⟩ = some (.int .u32 s.b) := by rw [M2.cell, msg_word _ _ _ 1 (by simp [S8.list])]; rfl
  have ec : w2.cell? ⟨g, 2, none⟩ = some (.int .u32 s.c) := by rw [M2.cell, msg_word _ _ _ 2 (by simp [S8.list])]; rfl
  have ed : w2.cell? ⟨g, 3, none⟩ = some (.int .u32 s.d) := by rw [M2.cell, msg_word _ _ _ 3 (by simp [S8.list])]; rfl
  have ee : w2.cell? ⟨g, 4, none⟩ = some (.int .u32 s.e) := by rw [M2.cell, msg_word _ _ _ 4 (by simp [S8.list])]; rfl
  have ef : w2.cell? ⟨g, 5, none⟩ = some (.int .u32 s.f) := by rw [M2.cell, msg_word _ _ _ 5 (by simp [S8.list])]; rfl
  have eg : w2.cell? ⟨g, 6, none⟩ = some (.int .u32 s.g) := by rw [M2.cell, msg_word _ _ _ 6 (by simp [S8.list])]; rfl
  have eh : w2.cell? ⟨g, 7, none⟩ = some (.int .u32 s.h) := by rw [M2.cell, msg_word _ _ _ 7 (by simp [S8.list])]; rfl
  have HM2 := hid_ M2
  have HT2 := hid_ T2
  have HG2 := hid_ gw2
  have HK2 := hid_ k2
  have HW1 := hid_ sz1
  clear M2 T2 gw2 k2 g2 s2 hb1 sz1 c0 HM HT HCB
  go_quiet (fail)
  go_wp2
  go_quiet (fail)
  go_wp2
  clear ea eb ec ed ee ef eg eh
  go_loopw [3, 4, 5, 6, 7, 8, 9, 10, 61] (fun va vb vc vd ve vf vg vh i wr => ∃ (t : Nat) (r : S8), t ≤ 64 ∧ i = .int .i64 t ∧ r = rounds s W t ∧ va = .int .u32 r.a ∧ vb = .int .u32 r.b ∧ vc = .int .u32 r.c ∧ vd = .int .u32 r.d ∧ ve = .int .u32 r.e ∧ vf = .int .u32 r.f ∧ vg = .int .u32 r.g ∧ vh = .int .u32 r.h ∧ Bk wr g 111 (msgCells s.list blk held count) ∧ Bk wr w1.heap.size 141 (wordsRow W) ∧ Tab wr ∧ w.grownBy wr (some g)) (fun _ _ _ _ _ _ _ _ i _ => 64 - (intOf i).toNat)
  case atStart => exact ⟨0, s, by omega, rfl, rfl, rfl, rfl, rfl, rfl, rfl, rfl, rfl, rfl, HM2.out, HK2.out, HT2.out, grown_drewN (grown_drewN HG2.out _) _⟩
  case round =>
    obtain ⟨t, r, htl, rfl, hr, rfl, rfl, rfl, rfl, rfl, rfl, rfl, rfl, m3, k3, t3, g3⟩ := hrel
    have HR := hid_ hr
    have HM3 := hid_ m3
    have HK3 := hid_ k3
    have HT3 := hid_ t3
    have HG3 := hid_ g3
    clear hr m3 k3 t3 g3
    by_cases hlt : t < 64
    · have hk := HT3.out t hlt
      have hw := HK3.out.cell t
      rw [wordsRow_at _ _ (by rw [HWL.out]; exact hlt)] at hw
      obtain ⟨kx, hkx⟩ : ∃ x, Hid (roundK.getD t 0 = x) := ⟨_, rfl⟩
      obtain ⟨wx, hwx⟩ : ∃ x, Hid (W.getD t 0 = x) := ⟨_, rfl⟩
      rw [hkx.out] at hk
      rw [hwx.out] at hw
      have hro := rounds_ok hs W t
      rw [← HR.out] at hro
      obtain ⟨oe0, oe1⟩ := hro.e
      obtain ⟨oa0, oa1⟩ := hro.a
      have c1 : ∀ V : World, Calls Tryd.prog 79 #[.int .u32 r.e, .int .i64 6, .int .i64 11, .int .i64 25] V fun e w' => e = .returned (.int .u32 (bsig1 r.e)) ∧ V = w' := fun V => turned_any r.e 6 11 25 oe0 oe1 (by decide) (by decide) (by decide) V
      have c2 : ∀ V : World, Calls Tryd.prog 79 #[.int .u32 r.a, .int .i64 2, .int .i64 13, .int .i64 22] V fun e w' => e = .returned (.int .u32 (bsig0 r.a)) ∧ V = w' := fun V => turned_any r.a 2 13 22 oa0 oa1 (by decide) (by decide) (by decide) V
      have t0 : (0 : Int) ≤ (t : Int) := by omega
      have t64 : (t : Int) < 64 := by omega
      clear hro
      go_wp2
      go_quiet ((go_at_call 79; with_reducible exact q_left (c1 _)))
      clear hk hw t0 t64 oe0 oe1 oa0 oa1 c1
      go_wp2_with (go_at_call 79; ((with_reducible refine (c2 _).mono ?_); rintro e w' ⟨rfl, rfl⟩))
      go_roundw
      case rel => exact ⟨t + 1, rnd r kx wx, by omega, by go_num, (by show _ = rnd (rounds s W t) _ _; rw [← HR.out, hkx.out, hwx.out]), rfl, rfl, rfl, rfl, rfl, rfl, rfl, rfl, HM3.out.drewN nq, HK3.out.drewN nq, HT3.out, grown_drewN HG3.out nq⟩
      case measure => simp [intOf]; omega
    · obtain rfl : t = 64 := by omega
      clear HK3 HT3 HM2 HT2 HG2 HK2 HW1 hlt hgn
      go_wp2
      go_loopw [14, 15, 121] (fun _ _ i wv => ∃ k : Nat, k ≤ 8 ∧ i = .int .i64 k ∧ Bk wv g 111 (msgCells (mixed s r k) blk held count) ∧ w.grownBy wv (some g)) (fun _ _ i _ => 8 - (intOf i).toNat)
      case atStart => exact ⟨0, by omega, rfl, HM3.out, HG3.out⟩
      case round =>
        obtain ⟨k, hk8, rfl, m4, g4⟩ := hrel
        have HM4 := hid_ m4
        have HG4 := hid_ g4
        clear m4 g4 HM3 HG3
        by_cases hlt : k < 8
        · have hix := idx8 r k hlt
          have hc := HM4.out.cell k
          rw [msg_word _ _ _ k (by rw [mixed_len]; exact hlt), mixed_get s r k hlt] at hc
          have hf := HM4.out.frozen k
          have hset := HM4.out.set_ k (.int .u32 ((s.list.getD k 0 + r.list.getD k 0) % 4294967296))
          rw [msg_setword _ _ _ _ _ (by rw [mixed_len]; exact hlt), mixed_set s r k hlt] at hset
          have HS := hid_ hset
          clear hset
          obtain ⟨x, hx⟩ : ∃ x, Hid (r.list.getD k 0 = x) := ⟨_, rfl⟩
          obtain ⟨y, hy⟩ : ∃ y, Hid (s.list.getD k 0 = y) := ⟨_, rfl⟩
          rw [hx.out] at hix HS
          rw [hy.out] at hc HS
          have t0 : (0 : Int) ≤ (k : Int) := by omega
          have t8 : (k : Int) < 8 := by omega
          go_wp2
          go_region
          all_goals
            go_wp2
            go_roundw
            case rel => exact ⟨k + 1, by omega, by go_num, HS.out, grown_drew (grown_put HG4.out _ _)⟩
            case measure => simp [intOf]; omega
        · obtain rfl : k = 8 := by omega
          go_wp2
          go_end0
          have he : mixed s r 8 = (comp s blk).list := by
            unfold comp
            rw [hW.out, ← HR.out]
            rfl
          rw [← he]
          exact ⟨rfl, HM4.out, HG4.out⟩
end Go.Proofs.YtegfnlnbhhmkjaaDoor

namespace Go.Proofs.YtegfnlnbhhmkjaaDoor
set_option maxRecDepth 100000
open Go.RowKit

/-! ### The message, as a plain datum -/
structure Msg where
  s : S8
  blk : List UInt8
  held : Nat
structure Msg.ok (m : Msg) : Prop where
  s : m.s.ok
  blk : m.blk.length = 64
  held : m.held < 64
def Msg.push (m : Msg) (c : UInt8) : Msg :=
  if m.held + 1 = 64 then ⟨comp m.s (m.blk.set m.held c), m.blk.set m.held c, 0⟩ else ⟨m.s, m.blk.set m.held c, m.held + 1⟩
def Msg.absorb (m : Msg) (l : List UInt8) : Msg := l.foldl Msg.push m
theorem comp_ok (s : S8) (b : List UInt8) : (comp s b).ok := addS_ok _ _
theorem Msg.push_ok {m : Msg} (h : m.ok) (c : UInt8) : (m.push c).ok := by
  unfold Msg.push
  split
  · exact ⟨comp_ok _ _, by simp [h.blk], by simp⟩
  · exact ⟨h.s, by simp [h.blk], by have := h.held; simp; omega⟩
theorem Msg.absorb_ok {m : Msg} (h : m.ok) (l : List UInt8) : (m.absorb l).ok := by
  induction l generalizing m with
  | nil => exact h
  | cons c l ih => exact ih (Msg.push_ok h c)
theorem Msg.absorb_append (m : Msg) (l k : List UInt8) : m.absorb (l ++ k) = (m.absorb l).absorb k := by simp [Msg.absorb]
/-- The block with l laid from 'at' on. -/
def laid (blk : List UInt8) (i : Nat) (l : List UInt8) : List UInt8 := blk.take i ++ l ++ blk.drop (i + l.length)
theorem laid_len {blk : List UInt8} {i : Nat} {l : List UInt8} (h : i + l.length ≤ blk.length) : (laid blk i l).length = blk.length := by
  unfold laid; simp; omega
theorem laid_cons {blk : List UInt8} {i : Nat} (c : UInt8) {l : List UInt8} (h : i + (c :: l).length ≤ blk.length) : laid (blk.set i c) (i + 1) l = laid blk i (c :: l) := by
  simp only [List.length_cons] at h
  have hi : i < blk.length := by omega
  unfold laid
  have h1 : (blk.set i c).take (i + 1) = blk.take i ++ [c] := by
    rw [List.take_set, List.take_succ_eq_append_getElem hi, List.set_append_right _ _ (by simp; omega)]
    simp [Nat.min_eq_left (Nat.le_of_lt hi)]
  have h2 : (blk.set i c).drop (i + 1 + l.length) = blk.drop (i + (c :: l).length) := by
    rw [List.drop_set, if_pos (by omega), List.length_cons, show i + 1 + l.length = i + (l.length + 1) by omega]
  rw [h1, h2]
  simp
theorem absorb_fit : ∀ (l : List UInt8) (m : Msg), m.blk.length = 64 → m.held + l.length < 64 → m.absorb l = ⟨m.s, laid m.blk m.held l, m.held + l.length⟩
  | [], m, _, _ => by simp [Msg.absorb, laid]
  | c :: l, m, hb, h => by
    simp only [List.length_cons] at h
    have e : m.push c = ⟨m.s, m.blk.set m.held c, m.held + 1⟩ := by unfold Msg.push; rw [if_neg (by omega)]
    show (m.push c).absorb l = _
    rw [e, absorb_fit l _ (by simp [hb]) (by simp; omega)]
    simp only
    rw [laid_cons c (by simp [hb]; omega)]
    simp
    omega
theorem absorb_full : ∀ (l : List UInt8) (m : Msg), m.blk.length = 64 → 0 < l.length → m.held + l.length = 64 → m.absorb l = ⟨comp m.s (laid m.blk m.held l), laid m.blk m.held l, 0⟩
  | [], m, _, h0, _ => absurd h0 (by simp)
  | c :: l, m, hb, _, h => by
    simp only [List.length_cons] at h
    show (m.push c).absorb l = _
    rcases Nat.eq_zero_or_pos l.length with h0 | h0
    · have hl : l = [] := List.eq_nil_of_length_eq_zero h0
      subst hl
      have e : m.push c = ⟨comp m.s (m.blk.set m.held c), m.blk.set m.held c, 0⟩ := by unfold Msg.push; rw [if_pos (by simpa using h)]
      have hs : m.blk.set m.held c = laid m.blk m.held [c] := by
        rw [← laid_cons c (by simp [hb]; omega)]
        simp [laid]
      rw [e, hs]
      rfl
    · have e : m.push c = ⟨m.s, m.blk.set m.held c, m.held + 1⟩ := by unfold Msg.push; rw [if_neg (by omega)]
      rw [e, absorb_full l _ (by simp [hb]) h0 (by simp; omega)]
      simp only
      rw [laid_cons c (by simp [hb]; omega)]

/-! ### In memory -/
def Msg.cells (m : Msg) (count : Int) : Array Value := msgCells m.s.list m.blk (m.held : Int) count

/-- A slice that reads as l; its memory is not block g. -/
def RdN (w : World) (g : Nat) (A : Option Addr) (l : List UInt8) : Prop :=
  0 < l.length → ∃ b off, A = some ⟨b, off, none⟩ ∧ b ≠ g ∧ b < w.heap.size ∧ ∀ j, j < l.length → w.cell? ⟨b, off + j, none⟩ = some (.int .u8 ((l.getD j 0).toNat : Int))
section
variable {w w' : World} {g : Nat} {A : Option Addr} {l : List UInt8}
theorem Rd.rdn {B : Nat} (h : Rd w B A l) (hB : B ≤ g) (hg : g ≤ w.heap.size) : RdN w g A l := fun hn => by
  obtain ⟨b, off, e, hb, hc⟩ := h hn
  exact ⟨b, off, e, by omega, by omega, hc⟩
theorem RdN.grown (h : RdN w g A l) (hg : w.grownBy w' (some g)) : RdN w' g A l := fun hn => by
  obtain ⟨b, off, e, hb, hlt, hc⟩ := h hn
  exact ⟨b, off, e, hb, Nat.lt_of_lt_of_le hlt hg.size, fun j hj => (World.cell?_of_block (hg.block b hlt (fun e => by injection e with e; exact hb e))).trans (hc j hj)⟩
theorem RdN.drop {b off : Nat} (h : RdN w g (some ⟨b, off, none⟩) l) (n : Nat) : RdN w g (some ⟨b, off + n, none⟩) (l.drop n) := fun hn => by
  simp at hn
  obtain ⟨b', off', e, hb, hlt, hc⟩ := h (by omega)
  injection e with e
  injection e with e1 e2
  subst e1 e2
  refine ⟨b, off + n, rfl, hb, hlt, fun j hj => ?_⟩
  simp at hj
  rw [Nat.add_assoc, hc (n + j) (by omega)]
  simp [List.getD]
theorem Blk8.rdn {g' : Nat} (h : Blk8 w g' l) (hne : g' ≠ g) : RdN w g (some ⟨g', 0, none⟩) l := fun _ =>
  ⟨g', 0, rfl, hne, h.lt, fun j hj => by rw [Nat.zero_add]; exact h.cell j hj⟩
end
theorem Tab.grown {w w' : World} {g : Nat} (h : Tab w) (hg : w.grownBy w' (some g)) (hg0 : g ≠ 0) (hg1 : 0 < w.heap.size) : Tab w' := fun t ht => by
  rw [← h t ht]
  exact World.cell?_of_block (hg.block _ hg1 (fun e => by injection e with e; exact hg0 e.symm))

/-- The cells behind a copy. -/
theorem msg_laid {ws : List Int} {blk : List UInt8} (held count : Int) (i : Nat) (l : List UInt8) (h8 : ws.length = 8) (h : i + l.length ≤ blk.length) :
    ((msgCells ws blk held count).toList.take (8 + i) ++ (rowOf l).toList ++ (msgCells ws blk held count).toList.drop (8 + i + (rowOf l).toList.length)).toArray = msgCells ws (laid blk i l) held count := by
  have hw : (wordsRow ws).toList.length = 8 := by simp [wordsRow, h8]
  have hr : (rowOf blk).toList.length = blk.length := by simp [rowOf]
  have hl : (rowOf l).toList.length = l.length := by simp [rowOf]
  apply Array.ext'
  unfold msgCells laid
  simp only [Array.toList_append, hl]
  rw [List.take_append, hw, List.take_of_length_le (by omega), Nat.add_sub_cancel_left, List.take_append, hr, show i - blk.length = 0 by omega, List.take_zero, List.append_nil]
  rw [List.drop_append, hw, List.drop_of_length_le (by omega), List.nil_append, show 8 + i + l.length - 8 = i + l.length by omega, List.drop_append, hr, show i + l.length - blk.length = 0 by omega, List.drop_zero]
  simp [rowOf, List.map_take, List.map_drop]

/-- The rest of the block, as a slice. -/
theorem slice_blk (g i : Nat) (hi : i < 64) (W : World) :
    (Instr.sliceAt 109 (.pointer (some ⟨g, 8, none⟩)) (some (.int .i64 (i : Int))) none none).run Tryd.prog W = .ok (.slice (some ⟨g, 8 + i, none⟩) (64 - i) (64 - i)) W := by
  have he : Tryd.prog.elem 109 = 5 := by kernel_rfl
  have hn : Tryd.prog.arrayLen 109 = 64 := by kernel_rfl
  have ht : Tryd.prog.underlying 109 = some (.array (Tryd.prog.arrayLen 109) (Tryd.prog.elem 109)) := by rw [he, hn]; exact Tryd.underlying109
  rw [run_sliceAt_array_l W 109 ⟨g, 8, none⟩ ht .i64 i (by omega) (by rw [hn]; omega)]
  have hs : (sizeOf (Tryd.prog.elem 109)).run Tryd.prog W = .ok 1 W := by
    rw [he]
    obtain ⟨i, hi, hz, hsize, hby⟩ := info_parts info8
    simp [sizeOf, typeInfo, hi, hsize]
  rw [hs, hn]
  simp only [Result.andThen, slicedAt, Int.toNat_natCast, Nat.mul_one]
  rw [if_neg (by omega)]
  congr 3
  unfold Addr.add
  split
  · congr 1; omega
  · simp
/-- The rest of a slice. -/
theorem slice_from (A : Option Addr) (n c k : Nat) (hk : k ≤ n) (W : World) :
    (Instr.slice 39 (.slice A n c) (some (.int .i64 (k : Int))) none none).run Tryd.prog W = .ok (.slice (if c = k then A else A.map (·.add k)) (n - k) (c - k)) W := by
  have he : Tryd.prog.elem 39 = 5 := by kernel_rfl
  rw [run_slice_l W 39 A n c (by rw [he]; exact Tryd.underlying39) .i64 k (by omega) (by omega)]
  have hs : (sizeOf (Tryd.prog.elem 39)).run Tryd.prog W = .ok 1 W := by
    rw [he]
    obtain ⟨i, hi, hz, hsize, hby⟩ := info_parts info8
    simp [sizeOf, typeInfo, hi, hsize]
  rw [hs]
  simp only [Result.andThen, sliced, Int.toNat_natCast, Nat.mul_one]
theorem rdn_from {w : World} {g : Nat} {A : Option Addr} {l : List UInt8} (h : RdN w g A l) (c k : Nat) (hk : k ≤ l.length) (hc : l.length ≤ c) : RdN w g (if c = k then A else A.map (·.add k)) (l.drop k) := by
  by_cases hck : c = k
  · rw [if_pos hck]
    have : l.drop k = [] := List.drop_eq_nil_of_le (by omega)
    rw [this]
    exact fun hn => absurd hn (by simp)
  · rw [if_neg hck]
    intro hn
    have hl : 0 < l.length := by simp at hn; omega
    obtain ⟨b, off, e, _⟩ := h hl
    subst e
    have := h.drop k hn
    simp only [Option.map_some]
    have hp : (⟨b, off, none⟩ : Addr).add k = ⟨b, off + k, none⟩ := by unfold Addr.add; split <;> simp_all
    rw [hp]
    exact this

section
variable {ops : Array Oper} {rest : List Oper} {o : Oper} {a : Act} {w : World} {Q : Exit → Act → World → Prop}
/-- copy into a block known whole. -/
theorem wp_copy8 {K : Act → World → Prop} (d x : Operand) (ho : o.op = .call { callee := .builtin .copy, args := #[d, x], argTypes := #[39, 39] })
    (g i dl dc : Nat) (hd : a.eval d = .slice (some ⟨g, i, none⟩) dl dc) (A : Option Addr) (n c : Nat) (hx : a.eval x = .slice A n c) (l : List UInt8) (r : Nat) (hlr : l.length = r) (hl : 0 < r) (hln : r = Nat.min n dl)
    (h : Nat) (hr : RdN w h A l) (t : TypeId) (cur : Array Value) (hg : Bk w g t cur) (hfit : i + r ≤ cur.size)
    (hK : ∀ w', Bk w' g t (cur.toList.take i ++ (rowOf l).toList ++ cur.toList.drop (i + (rowOf l).toList.length)).toArray → w.grownBy w' (some g) → w'.heap.size = w.heap.size → K (a.put o.dst (.int .i64 (r : Int))) w') : o.wp Tryd.prog a w K Q := by
  subst hlr
  obtain ⟨b, off, rfl, _, _, hc⟩ := hr hl
  have hrl : (rowOf l).toList.length = l.length := by simp [rowOf]
  have hsrc : ∀ j v, (rowOf l).toList[j]? = some v → w.cell? ((⟨b, off, none⟩ : Addr).add j) = some v := by
    intro j v hj
    have hjl : j < l.length := by
      have := (List.getElem?_eq_some_iff.1 hj).1
      omega
    have hp : (⟨b, off, none⟩ : Addr).add j = ⟨b, off + j, none⟩ := by unfold Addr.add; split <;> simp_all
    have h2 := rowOf_at l j hjl
    have h3 : (rowOf l).toList[j]? = (rowOf l)[j]? := by simp
    rw [hp, hc j hjl, ← hj, h3, h2]
  have hrun := run_copy_row (P := Tryd.prog) w 39 39 o.type 5 g i dl dc ⟨b, off, none⟩ n c cur t (rowOf l).toList Tryd.underlying39 (by kernel_rfl) hg (by rw [hrl]; exact hln) hsrc (by rw [hrl]; exact hfit) (one_of_row l)
  unfold Oper.wp execOp
  simp only [ho, resolve, invoke, builtin, Sem.run_bind, Sem.run_pure, Result.andThen_ok, List.map_toArray, List.map_cons, List.map_nil, hd, hx, hrun]
  have := hK _ (hg.rowed _) (grown_row (World.grownBy.refl w _) _) (by simp)
  rw [hrl] at this ⊢
  exact this
theorem wpList_copy8 (hgd : o.guard = none) (d x : Operand) (ho : o.op = .call { callee := .builtin .copy, args := #[d, x], argTypes := #[39, 39] })
    (g i dl dc : Nat) (hd : a.eval d = .slice (some ⟨g, i, none⟩) dl dc) (A : Option Addr) (n c : Nat) (hx : a.eval x = .slice A n c) (l : List UInt8) (r : Nat) (hlr : l.length = r) (hl : 0 < r) (hln : r = Nat.min n dl)
    (h : Nat) (hr : RdN w h A l) (t : TypeId) (cur : Array Value) (hg : Bk w g t cur) (hfit : i + r ≤ cur.size)
    (hK : ∀ w', Bk w' g t (cur.toList.take i ++ (rowOf l).toList ++ cur.toList.drop (i + (rowOf l).toList.length)).toArray → w.grownBy w' (some g) → w'.heap.size = w.heap.size → wpList Tryd.prog ops Q rest (a.put o.dst (.int .i64 (r : Int))) w') : wpList Tryd.prog ops Q (o :: rest) a w :=
  wpList_plain hgd fun _ hk => wp_copy8 d x ho g i dl dc hd A n c hx l r hlr hl hln h hr t cur hg hfit fun w' h1 h2 h3 => hk _ _ (hK w' h1 h2 h3)
theorem step_copy8 {K : Act → World → Prop} {E : Prop} (hgd : o.guard = none) (d x : Operand) (ho : o.op = .call { callee := .builtin .copy, args := #[d, x], argTypes := #[39, 39] })
    (g i dl dc : Nat) (hd : a.eval d = .slice (some ⟨g, i, none⟩) dl dc) (A : Option Addr) (n c : Nat) (hx : a.eval x = .slice A n c) (l : List UInt8) (r : Nat) (hlr : l.length = r) (hl : 0 < r) (hln : r = Nat.min n dl)
    (h : Nat) (hr : RdN w h A l) (t : TypeId) (cur : Array Value) (hg : Bk w g t cur) (hfit : i + r ≤ cur.size)
    (hK : ∀ w', Bk w' g t (cur.toList.take i ++ (rowOf l).toList ++ cur.toList.drop (i + (rowOf l).toList.length)).toArray → w.grownBy w' (some g) → w'.heap.size = w.heap.size → K (a.put o.dst (.int .i64 (r : Int))) w') :
    if Region.wanted o (yielded ops a.tmps) = true then Oper.wp Tryd.prog o a w K Q else E := by
  have hw : Region.wanted o (yielded ops a.tmps) = true := by simp [Region.wanted, hgd]
  rw [if_pos hw]
  exact wp_copy8 d x ho g i dl dc hd A n c hx l r hlr hl hln h hr t cur hg hfit hK
end

def lenOf : Value → Nat | .slice _ n _ => n | _ => 0

set_option maxRecDepth 100000 in
set_option maxHeartbeats 1000000 in
theorem take_any (g : Nat) (m : Msg) (count : Nat) (hok : m.ok) (w : World) (hm : Bk w g 111 (m.cells count)) (ht : Tab w) (hg0 : g ≠ 0) (hg1 : 0 < w.heap.size)
    (A : Option Addr) (l : List UInt8) (n c : Nat) (hn : l.length = n) (hr : RdN w g A l) (hc : n ≤ c) (hcm : c ≤ 9223372036854775807) (hcount : count + n ≤ 18446744073709551615) :
    Calls Tryd.prog 47 #[.pointer (some ⟨g, 0, none⟩), .slice A n c] w fun e w' => e = .returned (.tuple #[]) ∧ Bk w' g 111 ((m.absorb l).cells ((count + n : Nat) : Int)) ∧ w.grownBy w' (some g) := by
  have h73 : w.cell? ⟨g, 73, none⟩ = some (.int .u64 (count : Int)) := by
    rw [hm.cell]; exact msg_count _ _ rfl hok.blk
  have f73 := hm.frozen 73
  have hset := hm.set_ 73 (.int .u64 ((count : Int) + (n : Int)))
  have hcells : (m.cells count).setIfInBounds 73 (.int .u64 ((count : Int) + (n : Int))) = m.cells ((count + n : Nat) : Int) := by
    unfold Msg.cells
    exact msg_setcount _ _ _ rfl hok.blk
  rw [hcells] at hset
  have HM := hid_ hset
  have HT := hid_ (ht.grown (grown_put (World.grownBy.refl w (some g)) 73 (.int .u64 ((count : Int) + (n : Int)))) hg0 hg1)
  have HR := hid_ (hr.grown (grown_put (World.grownBy.refl w (some g)) 73 (.int .u64 ((count : Int) + (n : Int)))))
  have HL := hid_ hn
  have HOK := hid_ hok
  clear hset hcells hm ht hr hn hok
  go_enter Tryd.func47, Tryd.ntmps47
  go_wp2
  clear h73 f73
  go_loopw [1, 4] (fun v _ wr => ∃ (A' : Option Addr) (k : List UInt8) (n' c' : Nat) (q : Msg), v = .slice A' n' c' ∧ k.length = n' ∧ n' ≤ c' ∧ c' ≤ 9223372036854775807 ∧ q.ok ∧ m.absorb l = q.absorb k ∧ RdN wr g A' k ∧ Bk wr g 111 (q.cells ((count + n : Nat) : Int)) ∧ Tab wr ∧ w.grownBy wr (some g)) (fun v _ _ => lenOf v)
  case atStart => exact ⟨A, l, n, c, m, rfl, HL.out, hc, hcm, HOK.out, rfl, HR.out, HM.out, HT.out, grown_put (World.grownBy.refl w (some g)) _ _⟩
  case round =>
    obtain ⟨A', k, n', c', q, rfl, hkl, hnc, hcm', hq, habs, hr, hmq, htq, hgr⟩ := hrel
    have HKL := hid_ hkl
    have HQ := hid_ hq
    have HA := hid_ habs
    have HR1 := hid_ hr
    have HM1 := hid_ hmq
    have HT1 := hid_ htq
    have HG1 := hid_ hgr
    clear hkl hq habs hr hmq htq hgr HM HT HR HL
    by_cases h0 : n' = 0
    · subst h0
      go_wp2
      go_end0
      have hk0 : k = [] := List.eq_nil_of_length_eq_zero HKL.out
      rw [HA.out, hk0]
      exact ⟨rfl, HM1.out, HG1.out⟩
    · obtain ⟨r, hr1, hr2, hr3, hrm⟩ : ∃ r : Nat, 1 ≤ r ∧ r ≤ n' ∧ q.held + r ≤ 64 ∧ r = Nat.min n' (64 - q.held) := by
        have := HQ.out.held
        rcases Nat.le_total n' (64 - q.held) with h | h
        · exact ⟨n', by omega, by omega, by omega, (Nat.min_eq_left h).symm⟩
        · exact ⟨64 - q.held, by omega, by omega, by omega, (Nat.min_eq_right h).symm⟩
      have HRM := hid_ hrm
      have hheld := HQ.out.held
      have hpl : (k.take r).length = r := by rw [List.length_take, HKL.out]; omega
      have PL := hid_ hpl
      have hsb := slice_blk g q.held hheld
      have hsf := slice_from A' n' c' r hr2
      have c72 : wr.cell? ⟨g, 72, none⟩ = some (.int .i64 (q.held : Int)) := by
        rw [HM1.out.cell]; exact msg_held _ _ rfl HQ.out.blk
      have hrp : RdN wr g A' (k.take r) := fun hn => by
        rw [hpl] at hn
        obtain ⟨b, off, e, hb, hlt, hcc⟩ := HR1.out (by rw [HKL.out]; omega)
        refine ⟨b, off, e, hb, hlt, fun j hj => ?_⟩
        rw [hpl] at hj
        rw [hcc j (by rw [HKL.out]; omega)]
        simp [List.getD, hj]
      have HRP := hid_ hrp
      clear hrm hpl hrp
      go_wp2
      refine region_quiet_tail_lit 9 (by kernel_rfl) (by kernel_rfl) ?_
      simp only [List.take_succ_cons, List.take_zero]
      repeat (go_big_quiet_step (fail))
      refine wpQuiet_nil ?_
      intro w' hw'
      obtain ⟨nq, rfl⟩ := hw'
      simp only [List.drop_succ_cons, List.drop_zero]
      have hpos : ((q.held : Int) + (r : Int)) ≤ 64 := by omega
      have hblk : (laid q.blk q.held (k.take r)).length = 64 := by
        rw [laid_len (by rw [PL.out, HQ.out.blk]; omega), HQ.out.blk]
      have HBL := hid_ hblk
      have hml := msg_laid (ws := q.s.list) (blk := q.blk) (q.held : Int) ((count + n : Nat) : Int) q.held (k.take r) rfl (by rw [PL.out, HQ.out.blk]; omega)
      have HML := hid_ hml
      have hrest := rdn_from HR1.out c' r (by rw [HKL.out]; exact hr2) (by rw [HKL.out]; exact hnc)
      have HRS := hid_ hrest
      have hkd : (k.drop r).length = n' - r := by rw [List.length_drop, HKL.out]
      have HKD := hid_ hkd
      have hka : q.absorb k = (q.absorb (k.take r)).absorb (k.drop r) := by rw [← Msg.absorb_append, List.take_append_drop]
      have HKA := hid_ hka
      have hfit : 8 + q.held + r ≤ (msgCells q.s.list q.blk (q.held : Int) ((count + n : Nat) : Int)).size := by rw [msg_size _ _ rfl HQ.out.blk]; omega
      have HFT := hid_ hfit
      have hmd := HM1.out.drewN nq
      have HMD := hid_ hmd
      have hrd : RdN (wr.drewN nq) g A' (k.take r) := HRP.out
      have HRD := hid_ hrd
      clear hblk hml hrest hkd hka hfit hmd hrd c72 hsb
      by_cases hfull : q.held + r = 64
      · have heq : ((q.held : Int) + (r : Int) == 64) = true := by simp; omega
        have HF := hid_ hfull
        clear hfull
        refine wpList_copy8 rfl (.tmp 25) (.tmp 26) rfl g (8 + q.held) (64 - q.held) (64 - q.held) rfl A' n' c' rfl (k.take r) r PL.out hr1 HRM.out g HRD.out 111 (msgCells q.s.list q.blk (q.held : Int) ((count + n : Nat) : Int)) HMD.out HFT.out ?_
        intro w5 k5 g5 s5
        rw [HML.out] at k5
        have c72 := k5.cell 72
        rw [msg_held _ _ rfl HBL.out] at c72
        have f72 := k5.frozen 72
        have k6 := (k5.set_ 72 (.int .i64 ((q.held : Int) + (r : Int)))).set_ 72 (.int .i64 0)
        rw [msg_setheld _ _ _ rfl HBL.out, msg_setheld _ _ _ rfl HBL.out] at k6
        have g6 := grown_put (grown_put ((grown_drewN HG1.out nq).trans g5) 72 (.int .i64 ((q.held : Int) + (r : Int)))) 72 (.int .i64 0)
        have K5 := hid_ k5
        have K6 := hid_ k6
        have G6 := hid_ g6
        have hz0 : 0 < (wr.drewN nq).heap.size := Nat.lt_of_lt_of_le hg1 HG1.out.size
        have t6 : Tab ((w5.setCell ⟨g, 72, none⟩ (.int .i64 ((q.held : Int) + (r : Int)))).setCell ⟨g, 72, none⟩ (.int .i64 0)) :=
          Tab.grown (w := wr.drewN nq) HT1.out (grown_put (grown_put g5 72 (.int .i64 ((q.held : Int) + (r : Int)))) 72 (.int .i64 0)) hg0 hz0
        have z6 : 0 < ((w5.setCell ⟨g, 72, none⟩ (.int .i64 ((q.held : Int) + (r : Int)))).setCell ⟨g, 72, none⟩ (.int .i64 0)).heap.size := Nat.lt_of_lt_of_le hg1 g6.size
        have cm := mix_any g q.s (laid q.blk q.held (k.take r)) 0 ((count + n : Nat) : Int) HQ.out.s HBL.out _ k6 t6 hg0 z6
        clear k5 k6 g6 s5 t6 z6 hz0
        go_wp2_with (go_at_call 64; ((with_reducible refine cm.mono ?_); rintro e w7 ⟨rfl, m7, g7⟩))
        go_roundw
        case rel =>
          have hab : m.absorb l = (⟨comp q.s (laid q.blk q.held (k.take r)), laid q.blk q.held (k.take r), 0⟩ : Msg).absorb (k.drop r) := by
            rw [HA.out, HKA.out, absorb_full (k.take r) q HQ.out.blk (by rw [PL.out]; exact hr1) (by rw [PL.out]; exact HF.out)]
          have gch := (grown_put (grown_put g5 72 (.int .i64 ((q.held : Int) + (r : Int)))) 72 (.int .i64 0)).trans g7
          have hz0 : 0 < (wr.drewN nq).heap.size := Nat.lt_of_lt_of_le hg1 HG1.out.size
          exact ⟨_, k.drop r, n' - r, c' - r, ⟨comp q.s (laid q.blk q.held (k.take r)), laid q.blk q.held (k.take r), 0⟩, rfl, HKD.out, by omega, by omega, ⟨comp_ok _ _, HBL.out, by simp⟩, hab,
            RdN.grown (w := wr.drewN nq) HRS.out gch, m7, Tab.grown (w := wr.drewN nq) HT1.out gch hg0 hz0, G6.out.trans g7⟩
        case measure => simp [lenOf]; omega
      · have heq : ((q.held : Int) + (r : Int) == 64) = false := by simp; omega
        have hlt64 : q.held + r < 64 := by omega
        have HF := hid_ hlt64
        clear hfull hlt64
        refine wpList_copy8 rfl (.tmp 25) (.tmp 26) rfl g (8 + q.held) (64 - q.held) (64 - q.held) rfl A' n' c' rfl (k.take r) r PL.out hr1 HRM.out g HRD.out 111 (msgCells q.s.list q.blk (q.held : Int) ((count + n : Nat) : Int)) HMD.out HFT.out ?_
        intro w5 k5 g5 s5
        rw [HML.out] at k5
        have c72 := k5.cell 72
        rw [msg_held _ _ rfl HBL.out] at c72
        have f72 := k5.frozen 72
        have k6 := k5.set_ 72 (.int .i64 ((q.held : Int) + (r : Int)))
        rw [msg_setheld _ _ _ rfl HBL.out] at k6
        have K6 := hid_ k6
        clear k5 k6 s5
        go_wp2
        go_roundw
        case rel =>
          have hab : m.absorb l = (⟨q.s, laid q.blk q.held (k.take r), q.held + r⟩ : Msg).absorb (k.drop r) := by
            rw [HA.out, HKA.out, absorb_fit (k.take r) q HQ.out.blk (by rw [PL.out]; exact HF.out), PL.out]
          have gch := grown_put g5 72 (.int .i64 ((q.held : Int) + (r : Int)))
          have hz0 : 0 < (wr.drewN nq).heap.size := Nat.lt_of_lt_of_le hg1 HG1.out.size
          exact ⟨_, k.drop r, n' - r, c' - r, ⟨q.s, laid q.blk q.held (k.take r), q.held + r⟩, rfl, HKD.out, by omega, by omega, ⟨HQ.out.s, HBL.out, HF.out⟩, hab,
            RdN.grown (w := wr.drewN nq) HRS.out gch, K6.out, Tab.grown (w := wr.drewN nq) HT1.out gch hg0 hz0, (grown_drewN HG1.out nq).trans gch⟩
        case measure => simp [lenOf]; omega
end Go.Proofs.YtegfnlnbhhmkjaaDoor

namespace Go.Proofs.YtegfnlnbhhmkjaaDoor
set_option maxRecDepth 100000
open Go.RowKit

/-- How many noughts stand behind the byte 80. -/
def gap (held : Nat) : Nat := (119 - held) % 64
/-- What stands behind a text's bytes. -/
def tail (held total : Nat) : List UInt8 := [128] ++ List.replicate (gap held) 0 ++ highB 8 (8 * total)

/-- The message at g, whatever its count. -/
def MsgAt (w : World) (g : Nat) (m : Msg) : Prop := ∃ x : Int, Bk w g 111 (m.cells x)

/-- Another take, behind what has gone before: told from the first world on. -/
theorem take_next (g : Nat) (m : Msg) (count : Nat) (hok : m.ok) (w0 w : World) (hx : w0.grownBy w (some g)) (hm : Bk w g 111 (m.cells count)) (ht : Tab w0) (hg0 : g ≠ 0) (hg1 : 0 < w0.heap.size)
    (A : Option Addr) (l : List UInt8) (n : Nat) (hn : l.length = n) (hr : RdN w g A l) (hcm : n ≤ 9223372036854775807) (hcount : count + n ≤ 18446744073709551615) :
    Calls Tryd.prog 47 #[.pointer (some ⟨g, 0, none⟩), .slice A n n] w fun e w' => e = .returned (.tuple #[]) ∧ Bk w' g 111 ((m.absorb l).cells ((count + n : Nat) : Int)) ∧ w0.grownBy w' (some g) :=
  (take_any g m count hok w hm (ht.grown hx hg0 hg1) hg0 (Nat.lt_of_lt_of_le hg1 hx.size) A l n n hn hr (Nat.le_refl _) hcm hcount).mono fun _ _ ⟨h1, h2, h3⟩ => ⟨h1, h2, hx.trans h3⟩

set_option maxRecDepth 100000 in
set_option maxHeartbeats 1000000 in
theorem end_any (g : Nat) (m : Msg) (count : Nat) (hok : m.ok) (w : World) (hm : Bk w g 111 (m.cells count)) (ht : Tab w) (hg0 : g ≠ 0) (hg1 : 0 < w.heap.size) (hcount : count ≤ 1152921504606846976) :
    Calls Tryd.prog 48 #[.pointer (some ⟨g, 0, none⟩)] w fun e w' => e = .returned (.tuple #[]) ∧ MsgAt w' g (m.absorb (tail m.held count)) ∧ w.grownBy w' (some g) := by
  have c73 : w.cell? ⟨g, 73, none⟩ = some (.int .u64 (count : Int)) := by rw [hm.cell]; exact msg_count _ _ rfl hok.blk
  have c72 : w.cell? ⟨g, 72, none⟩ = some (.int .i64 (m.held : Int)) := by rw [hm.cell]; exact msg_held _ _ rfl hok.blk
  have hheld := hok.held
  have hgl := hm.lt
  -- the first byte behind
  have k1 := take_any g m count hok (w.alloc (.cells (rowOf [128]) 5)) (hm.alloc _) (ht.grown (grown_alloc (World.grownBy.refl w (some g)) _) hg0 hg1) hg0 (by simp <;> omega)
    (some ⟨w.heap.size, 0, none⟩) [128] 1 1 rfl ((Blk8.new w [128]).rdn (by omega)) (by omega) (by omega) (by omega)
  have q1 : rowOf [128] = #[Value.int .u8 128] := rfl
  rw [q1] at k1
  have hgap : gap m.held ≤ 63 := by unfold gap; omega
  have egap : ((119 : Int) - (m.held : Int)) % 64 = (gap m.held : Int) := by unfold gap; omega
  have HG := hid_ (rfl : gap m.held = gap m.held)
  obtain ⟨z, hz⟩ : ∃ z, Hid (gap m.held = z) := ⟨_, rfl⟩
  rw [hz.out] at hgap egap
  have hmk := mk8 z (by omega)
  have d2 := fun W => putHigh_any (8 * count) 8 8 (by omega) (by omega) (by omega) (by omega) W
  have e8 : ((8 * count : Nat) : Int) = 8 * (count : Int) := by omega
  rw [e8] at d2
  clear e8
  have HOK := hid_ hok
  have HT := hid_ ht
  clear HG hok ht hm
  go_enter Tryd.func48, Tryd.ntmps48
  go_wp2_with (first
    | (go_at_call 47; ((with_reducible refine k1.mono ?_); rintro e w1 ⟨rfl, m1, g1⟩); have x1 := (grown_alloc (World.grownBy.refl w (some g)) (.cells #[.int .u8 128] 5)).trans g1; have k2 := take_next g (m.absorb [128]) (count + 1) (Msg.absorb_ok HOK.out _) w (w1.alloc (.cells (rowOf (List.replicate z 0)) 5)) (grown_alloc x1 _) (m1.alloc _) HT.out hg0 hg1 (some ⟨w1.heap.size, 0, none⟩) (List.replicate z 0) z (by simp) ((Blk8.new w1 _).rdn (by have := x1.size; omega)) (by omega) (by omega))
    | (go_at_call 47; ((with_reducible refine k2.mono ?_); rintro e w2 ⟨rfl, m2, g2⟩); have d3 := d2 w2)
    | (go_at_call 65; ((with_reducible refine d3.mono ?_); rintro e w3 ⟨rfl, b3, bb3⟩); have x3 := grown_of_below g2 bb3; have k3 := take_next g ((m.absorb [128]).absorb (List.replicate z 0)) (count + 1 + z) (Msg.absorb_ok (Msg.absorb_ok HOK.out _) _) w w3 x3 (m2.below bb3 m2.lt) HT.out hg0 hg1 (some ⟨w2.heap.size, 0, none⟩) (highB 8 (8 * count)) 8 (highB_len _ _) (b3.rdn (by have := g2.size; omega)) (by omega) (by omega))
    | (go_at_call 47; ((with_reducible refine k3.mono ?_); rintro e w4 ⟨rfl, m4, g4⟩)))
  go_end0
  refine ⟨rfl, ?_, g4⟩
  have ht : m.absorb (tail m.held count) = ((m.absorb [128]).absorb (List.replicate z 0)).absorb (highB 8 (8 * count)) := by
    unfold tail
    rw [hz.out, Msg.absorb_append, Msg.absorb_append]
  rw [ht]
  exact ⟨_, m4⟩

/-! ### The digest -/
def zbytes (n : Nat) : List UInt8 := List.replicate n 0
theorem zbytes_len (n : Nat) : (zbytes n).length = n := by simp [zbytes]
/-- The digest's bytes. -/
def digestOf (s : S8) : List UInt8 := (s.list.map fun x => highB 4 x.toNat).flatten
theorem flat4_len : ∀ (L : List (List UInt8)), (∀ x ∈ L, x.length = 4) → L.flatten.length = 4 * L.length
  | [], _ => rfl
  | x :: L, h => by
    rw [List.flatten_cons, List.length_append, h x (by simp), flat4_len L (fun y hy => h y (by simp [hy])), List.length_cons]
    omega
theorem flat4 : ∀ (L : List (List UInt8)) (k : Nat), (∀ x ∈ L, x.length = 4) → k < L.length → (L.flatten.drop (4 * k)).take 4 = L.getD k []
  | [], _, _, h => absurd h (by simp)
  | x :: L, 0, h, _ => by
    have hx := h x (by simp)
    rw [List.flatten_cons, Nat.mul_zero, List.drop_zero, ← hx, List.take_left]
    rfl
  | x :: L, k + 1, h, hk => by
    have hx := h x (by simp)
    rw [List.flatten_cons, show 4 * (k + 1) = x.length + 4 * k by omega, ← List.drop_drop, List.drop_left, flat4 L k (fun y hy => h y (by simp [hy])) (by simpa using hk)]
    rfl
theorem dig_four (s : S8) : ∀ x ∈ s.list.map (fun x => highB 4 x.toNat), x.length = 4 := by
  intro x hx
  rw [List.mem_map] at hx
  obtain ⟨y, _, rfl⟩ := hx
  exact highB_len _ _
theorem digestOf_len (s : S8) : (digestOf s).length = 32 := by
  unfold digestOf
  rw [flat4_len _ (dig_four s)]
  rfl
/-- The result as it lies behind k words. -/
def digPart (s : S8) (k : Nat) : List UInt8 := (digestOf s).take (4 * k) ++ zbytes (32 - 4 * k)
theorem digPart_len (s : S8) (k : Nat) (hk : k ≤ 8) : (digPart s k).length = 32 := by
  unfold digPart; rw [List.length_append, List.length_take, digestOf_len, zbytes_len]; omega
theorem dig_word (s : S8) (k : Nat) (hk : k < 8) : ((digestOf s).drop (4 * k)).take 4 = highB 4 (s.list.getD k 0).toNat := by
  unfold digestOf
  rw [flat4 _ k (dig_four s) (by simpa [S8.list] using hk)]
  match k, hk with
  | 0, _ | 1, _ | 2, _ | 3, _ | 4, _ | 5, _ | 6, _ | 7, _ => rfl
theorem laid_app (p z l : List UInt8) : laid (p ++ z) p.length l = p ++ l ++ z.drop l.length := by
  unfold laid
  rw [List.take_left, ← List.drop_drop, List.drop_left]
theorem digPart_laid (s : S8) (k : Nat) (hk : k < 8) : laid (digPart s k) (4 * k) (highB 4 (s.list.getD k 0).toNat) = digPart s (k + 1) := by
  have h1 : ((digestOf s).take (4 * k)).length = 4 * k := by rw [List.length_take, digestOf_len]; omega
  have h2 : (zbytes (32 - 4 * k)).drop 4 = zbytes (32 - 4 * (k + 1)) := by
    unfold zbytes
    rw [List.drop_replicate]
    congr 1
  have h3 := laid_app ((digestOf s).take (4 * k)) (zbytes (32 - 4 * k)) (highB 4 (s.list.getD k 0).toNat)
  rw [h1, highB_len, h2] at h3
  unfold digPart
  rw [h3, ← dig_word s k hk, ← List.take_add]
  rfl
theorem row_laid (out : List UInt8) (i : Nat) (l : List UInt8) : ((rowOf out).toList.take i ++ (rowOf l).toList ++ (rowOf out).toList.drop (i + (rowOf l).toList.length)).toArray = rowOf (laid out i l) := by
  apply Array.ext'
  simp [rowOf, laid, List.map_take, List.map_drop]

theorem z32 (W : World) : (zeroValue 22).run Tryd.prog W = .ok (.agg (rowOf (zbytes 32))) W := by kernel_rfl
theorem i32_ : (Tryd.prog.info? 22).map (·.size) = some 32 := by kernel_rfl
theorem bytes_one (l : List UInt8) : (rowOf l).all (·.oneCell') = true := by
  rw [Array.all_eq_true_iff_forall_mem]
  intro v hv
  simp [rowOf] at hv
  obtain ⟨x, _, rfl⟩ := hv
  rfl
theorem slice_out (g i : Nat) (z : Int) (hz : z = (i : Int)) (hi : i < 32) (W : World) :
    (Instr.sliceAt 22 (.pointer (some ⟨g, 0, none⟩)) (some (.int .i64 z)) none none).run Tryd.prog W = .ok (.slice (some ⟨g, i, none⟩) (32 - i) (32 - i)) W := by
  subst hz
  have he : Tryd.prog.elem 22 = 5 := by kernel_rfl
  have hn : Tryd.prog.arrayLen 22 = 32 := by kernel_rfl
  have ht : Tryd.prog.underlying 22 = some (.array (Tryd.prog.arrayLen 22) (Tryd.prog.elem 22)) := by rw [he, hn]; exact Tryd.underlying22
  rw [run_sliceAt_array_l W 22 ⟨g, 0, none⟩ ht .i64 i (by omega) (by rw [hn]; omega)]
  have hs : (sizeOf (Tryd.prog.elem 22)).run Tryd.prog W = .ok 1 W := by
    rw [he]
    obtain ⟨i, hi, hz, hsize, hby⟩ := info_parts info8
    simp [sizeOf, typeInfo, hi, hsize]
  rw [hs, hn]
  simp only [Result.andThen, slicedAt, Int.toNat_natCast, Nat.mul_one]
  rw [if_neg (by omega)]
  congr 3
  unfold Addr.add
  split
  · congr 1; omega
  · simp

set_option maxRecDepth 100000 in
set_option maxHeartbeats 1000000 in
theorem digest_any (g : Nat) (m : Msg) (hok : m.ok) (w : World) (hm : MsgAt w g m) :
    Calls Tryd.prog 49 #[.pointer (some ⟨g, 0, none⟩)] w fun e w' => e = .returned (.agg (rowOf (digestOf m.s))) ∧ Below w.heap.size w w' := by
  obtain ⟨cnt, hm⟩ := hm
  have hz := z32
  have hgl := hm.lt
  have hcw : ∀ j, j < (wordsRow m.s.list).size → ((w.alloc (.cells (rowOf (zbytes 32)) 22)).alloc (.cells (rowOf (zbytes 32)) 22)).cell? ⟨g, 0 + j, none⟩ = (wordsRow m.s.list)[j]? := fun j hj => by
    rw [wordsRow_size] at hj
    rw [((hm.alloc _).alloc _).cell, Nat.zero_add, wordsRow_at _ _ hj]
    exact msg_word _ _ _ j hj
  have HCW := hid_ hcw
  have e8 : (Tryd.prog.info? 107).map (·.size) = some (wordsRow m.s.list).size := by rw [wordsRow_size]; exact i8_
  have E8 := hid_ e8
  have HOK := hid_ hok
  have a0 : Bk ((w.alloc (.cells (rowOf (zbytes 32)) 22)).alloc (.cells (rowOf (zbytes 32)) 22)) w.heap.size 22 (rowOf (zbytes 32)) := (Bk.new w _ _).alloc _
  have a1 : Bk ((w.alloc (.cells (rowOf (zbytes 32)) 22)).alloc (.cells (rowOf (zbytes 32)) 22)) (w.heap.size + 1) 22 (rowOf (zbytes 32)) := by simpa using Bk.new (w.alloc (.cells (rowOf (zbytes 32)) 22)) 22 (rowOf (zbytes 32))
  have A0 := hid_ a0
  have A1 := hid_ a1
  have HB := hid_ (((Below.refl w.heap.size w).alloc (Nat.le_refl _) (.cells (rowOf (zbytes 32)) 22)).alloc (by simp) (.cells (rowOf (zbytes 32)) 22))
  clear hcw e8 hok a0 a1 hm hgl
  go_enter Tryd.func49, Tryd.ntmps49
  go_wp2_with (refine wpList_load_sub rfl 107 (.tmp 8) rfl g 0 rfl (wordsRow m.s.list) HCW.out _ Tryd.underlying107 rfl E8.out ?_)
  go_loopw [4, 5, 10] (fun _ _ i wr => ∃ k : Nat, k ≤ 8 ∧ i = .int .i64 k ∧ Bk wr w.heap.size 22 (rowOf (zbytes 32)) ∧ Bk wr (w.heap.size + 1) 22 (rowOf (digPart m.s k)) ∧ Below w.heap.size w wr) (fun _ _ i _ => 8 - (intOf i).toNat)
  case atStart => exact ⟨0, by omega, rfl, A0.out, by simpa [digPart] using A1.out, HB.out⟩
  case round =>
    obtain ⟨k, hk, rfl, b0, b1, bb⟩ := hrel
    have B0 := hid_ b0
    have B1 := hid_ b1
    have BB := hid_ bb
    clear b0 b1 bb A0 A1 HB HCW
    by_cases hlt : k < 8
    · have hix : ∀ V : World, (Instr.index 107 (.agg (wordsRow m.s.list)) (.int .i64 (k : Int))).run Tryd.prog V = .ok (.int .u32 (m.s.list.getD k 0)) V := fun V => idx8 m.s k hlt V
      have hxo := getD_ok (S8.list_ok HOK.out.s) k
      have hdl := digPart_laid m.s k hlt
      obtain ⟨X, hX⟩ := Int.eq_ofNat_of_zero_le hxo.1
      have hX1 := hxo.2
      rw [hX] at hix hdl hX1
      rw [Int.toNat_natCast] at hdl
      have HDL := hid_ hdl
      have hso := slice_out (w.heap.size + 1) (4 * k) (4 * (k : Int)) (by omega) (by omega)
      have cp := fun V => putHigh_any X 4 4 (by omega) (by omega) (by omega) (by omega) V
      have hmin : 4 = Nat.min 4 (32 - 4 * k) := (Nat.min_eq_left (by omega)).symm
      have HMIN := hid_ hmin
      have hfit : 4 * k + 4 ≤ (rowOf (digPart m.s k)).size := by rw [rowOf_size, digPart_len _ _ hk]; omega
      have HFIT := hid_ hfit
      have t0 : (0 : Int) ≤ (k : Int) := by omega
      have hm4 : IntKind.i64.wrap (4 * (k : Int)) = 4 * (k : Int) := IntWalk.i64_in _ (by omega)
      have hw64 : IntKind.u64.wrap (X : Int) = (X : Int) := IntWalk.u64_in _ (by omega)
      clear hxo hdl hmin hfit hX
      go_wp2
      go_region_law (first
        | (refine step_copy8 rfl (.tmp 16) (.tmp 19) rfl (w.heap.size + 1) (4 * k) (32 - 4 * k) (32 - 4 * k) rfl (some ⟨wr.heap.size, 0, none⟩) 4 4 rfl (highB 4 X) 4 (highB_len _ _) (by omega) HMIN.out (w.heap.size + 1) rd5 22 (rowOf (digPart m.s k)) k5 HFIT.out ?_; intro w6 k6 g6 s6; rw [row_laid, HDL.out] at k6)
        | (go_simp; go_at_call 65; ((with_reducible refine (cp _).mono ?_); rintro e w5 ⟨rfl, b5, bb5⟩); have k5 := (B1.out.drew).below bb5 B1.out.lt; have rd5 := b5.rdn (g := w.heap.size + 1) (by have := B1.out.lt; show wr.heap.size ≠ _; omega)))
      all_goals
        have q0 := ((B0.out.drew).below bb5 B0.out.lt).grown g6 (fun e => by injection e with e; omega)
        have hl5 := bb5.size
        have qb := ((BB.out.drew).trans (bb5.mono BB.out.size)).grown g6 (by have := BB.out.size; show _ ≤ w5.heap.size; exact Nat.le_trans this hl5) (fun k hk => by injection hk with hk; omega)
        go_wp2
        go_roundw
        case rel => exact ⟨k + 1, by omega, by go_num, q0, k6, qb⟩
        case measure => simp [intOf]; omega
    · obtain rfl : k = 8 := by omega
      have hp8 : digPart m.s 8 = digestOf m.s := by
        unfold digPart
        rw [List.take_of_length_le (by rw [digestOf_len]; omega)]
        simp [zbytes]
      have e32 : (Tryd.prog.info? 22).map (·.size) = some (rowOf (digestOf m.s)).size := by rw [rowOf_size, digestOf_len]; exact i32_
      have q32 : (rowOf (zbytes 32)).size = (rowOf (digestOf m.s)).size := by rw [rowOf_size, rowOf_size, digestOf_len, zbytes_len]
      have E32 := hid_ e32
      have Q32 := hid_ q32
      clear e32 q32
      have B1' := B1.out
      rw [hp8] at B1'
      go_wp2_with (first
        | (refine wpList_load_row rfl 22 _ rfl (w.heap.size + 1) rfl 22 (rowOf (digestOf m.s)) (0, 0) _ B1' Tryd.underlying22 rfl E32.out ?_)
        | (refine wpList_put_row rfl 22 _ _ rfl w.heap.size (rowOf (digestOf m.s)) rfl rfl 22 (rowOf (zbytes 32)) B0.out E32.out Q32.out (bytes_one _) ?_; intro W9 k9 g9 s9))
      exact bodyPost_ret (results_cell_row Tryd.results49 _ _ w.heap.size 22 _ (0, 0) _ rfl k9 Tryd.underlying22 rfl E32.out) rfl ⟨rfl, BB.out.grown g9 (by have := B0.out.lt; omega) (fun k hk => by injection hk with hk; omega)⟩

/-! ### sha2.Sum -/
/-- A slice of slices of bytes, that reads as ls; all of it below block B. -/
def Parts (w : World) (B : Nat) (A : Option Addr) (ls : List (List UInt8)) : Prop :=
  0 < ls.length → ∃ b off, A = some ⟨b, off, none⟩ ∧ b < B ∧ ∀ j, j < ls.length → ∃ Aj cj, w.cell? ⟨b, off + j, none⟩ = some (.slice Aj (ls.getD j []).length cj) ∧ Rd w B Aj (ls.getD j []) ∧ (ls.getD j []).length ≤ cj ∧ cj ≤ 9223372036854775807
def startS : S8 := ⟨1779033703, 3144134277, 1013904242, 2773480762, 1359893119, 2600822924, 528734635, 1541459225⟩
theorem startS_list : startS.list = startH := rfl
theorem startS_ok : startS.ok := by
  constructor <;> (constructor <;> decide)
def start : Msg := ⟨startS, zbytes 64, 0⟩
theorem start_ok : start.ok := ⟨startS_ok, zbytes_len 64, by show 0 < 64; omega⟩
theorem absorb_held : ∀ (l : List UInt8) (m : Msg), m.held < 64 → (m.absorb l).held = (m.held + l.length) % 64
  | [], m, h => by show m.held = _; simp; omega
  | c :: l, m, h => by
    show ((m.push c).absorb l).held = _
    have hp : (m.push c).held = (m.held + 1) % 64 := by
      unfold Msg.push
      split
      · show 0 = _; omega
      · show m.held + 1 = _; omega
    rw [absorb_held l _ (by rw [hp]; omega), hp, List.length_cons]
    omega
/-- SHA-256 of a text. -/
def sha (l : List UInt8) : List UInt8 := digestOf (start.absorb (l ++ tail (l.length % 64) l.length)).s
theorem sha_len (l : List UInt8) : (sha l).length = 32 := digestOf_len _

theorem zmsg (W : World) : (zeroValue 111).run Tryd.prog W = .ok (.agg (msgCells (zeros 8) (zbytes 64) 0 0)) W := by kernel_rfl
theorem imsg_ : (Tryd.prog.info? 111).map (·.size) = some 74 := by kernel_rfl
theorem msg_one (ws : List Int) (blk : List UInt8) (h c : Int) : (msgCells ws blk h c).all (·.oneCell') = true := by
  unfold msgCells
  rw [Array.all_append, Array.all_append, words_one, bytes_one]
  simp [Value.oneCell']

set_option maxRecDepth 100000 in
set_option maxHeartbeats 1000000 in
theorem sum_any (A : Option Addr) (n c : Nat) (ls : List (List UInt8)) (w : World) (hn : ls.length = n) (hp : Parts w w.heap.size A ls) (hnm : n ≤ 9223372036854775807) (htot : ls.flatten.length ≤ 1152921504606846976) (ht : Tab w) (hg1 : 0 < w.heap.size) :
    Calls Tryd.prog 14 #[.slice A n c] w fun e w' => e = .returned (.agg (rowOf (sha ls.flatten))) ∧ Below w.heap.size w w' := by
  have hz := z32
  have hzm := zmsg
  have c0 := fun W => startWords_any W
  have im : (Tryd.prog.info? 111).map (·.size) = some (msgCells startH (zbytes 64) 0 0).size := by rw [msg_size _ _ rfl (zbytes_len 64)]; exact imsg_
  have qm : (msgCells (zeros 8) (zbytes 64) 0 0).size = (msgCells startH (zbytes 64) 0 0).size := by rw [msg_size _ _ rfl (zbytes_len 64), msg_size _ _ rfl (zbytes_len 64)]
  have IM := hid_ im
  have QM := hid_ qm
  have HN := hid_ hn
  have HP := hid_ hp
  have HT := hid_ ht
  clear im qm hn hp ht
  go_enter Tryd.func14, Tryd.ntmps14
  go_wp2_with (first
    | (go_at_call 46; ((with_reducible refine (c0 _).mono ?_); rintro e w1 ⟨rfl, hb1⟩))
    | (refine wpList_built rfl 111 _ rfl (msgCells startH (zbytes 64) 0 0) (by kernel_rfl) ?_)
    | (refine wpList_put_row rfl 111 (.tmp 3) (.tmp 7) rfl w1.heap.size (msgCells startH (zbytes 64) 0 0) rfl rfl 111 (msgCells (zeros 8) (zbytes 64) 0 0) (Bk.new w1 _ _) IM.out QM.out (msg_one _ _ _ _) ?_; intro w2 m2 g2 s2))
  have l1 := hb1.size
  have r1 : Bk w1 w.heap.size 22 (rowOf (zbytes 32)) := (Bk.new w 22 (rowOf (zbytes 32))).below hb1 (by simp)
  have r2 : Bk w2 w.heap.size 22 (rowOf (zbytes 32)) := (r1.alloc _).grown g2 (fun e => by injection e with e; have := r1.lt; omega)
  have hgw : w.heap.size < w1.heap.size := r1.lt
  have bw2 : Below w.heap.size w w2 := ((((Below.refl w.heap.size w).alloc (Nat.le_refl _) (.cells (rowOf (zbytes 32)) 22)).trans (hb1.mono (by simp))).alloc (by omega) (.cells (msgCells (zeros 8) (zbytes 64) 0 0) 111)).grown g2 (by simp; omega) (fun k hk => by injection hk with hk; omega)
  obtain ⟨g, hg⟩ : ∃ g, Hid (w1.heap.size = g) := ⟨_, rfl⟩
  rw [hg.out] at m2 g2 hgw ⊢
  have hg0 : g ≠ 0 := by omega
  have M2 := hid_ m2
  have R2 := hid_ r2
  have BW2 := hid_ bw2
  clear m2 r2 bw2 r1 hb1 g2 s2 l1 c0
  go_loopw [5, 10] (fun _ i wr => ∃ k : Nat, k ≤ n ∧ i = .int .i64 k ∧ Bk wr g 111 ((start.absorb (ls.take k).flatten).cells (((ls.take k).flatten.length : Nat) : Int)) ∧ Bk wr w.heap.size 22 (rowOf (zbytes 32)) ∧ Below w.heap.size w wr) (fun _ i _ => n - (intOf i).toNat)
  case atStart => exact ⟨0, by omega, rfl, M2.out, R2.out, BW2.out⟩
  case round =>
    obtain ⟨k, hk, rfl, mk, rk, bk⟩ := hrel
    have MK := hid_ mk
    have RK := hid_ rk
    have BK := hid_ bk
    clear mk rk bk M2 R2 BW2
    have hTk : Tab wr := fun t h => by
      rw [← HT.out t h]
      exact BK.out.cell (p := ⟨_, t, none⟩) hg1
    have hg1k : 0 < wr.heap.size := Nat.lt_of_lt_of_le hg1 BK.out.size
    have hok := Msg.absorb_ok start_ok (ls.take k).flatten
    by_cases hlt : k < n
    · obtain ⟨b, off, hA, hbB, hcell⟩ := HP.out (by rw [HN.out]; omega)
      subst hA
      obtain ⟨Ak, ck, hck, hrk, hlk, hcm⟩ := hcell k (by rw [HN.out]; exact hlt)
      have hck' : wr.cell? ⟨b, off + k, none⟩ = some (.slice Ak (ls.getD k []).length ck) := (BK.out.cell (p := ⟨b, off + k, none⟩) hbB).trans hck
      have htk : (ls.take (k + 1)).flatten = (ls.take k).flatten ++ ls.getD k [] := by
        rw [List.take_succ_eq_append_getElem (by rw [HN.out]; exact hlt), List.flatten_append]
        simp [List.getD, HN.out, hlt]
      have hsub : (ls.take (k + 1)).flatten.length ≤ ls.flatten.length := by
        have h := congrArg (fun l => l.flatten.length) (List.take_append_drop (k + 1) ls)
        simp only [List.flatten_append, List.length_append] at h
        omega
      have htl : (ls.take (k + 1)).flatten.length = (ls.take k).flatten.length + (ls.getD k []).length := by rw [htk, List.length_append]
      have ct := take_any g (start.absorb (ls.take k).flatten) (ls.take k).flatten.length hok wr MK.out hTk hg0 hg1k Ak (ls.getD k []) (ls.getD k []).length ck rfl ((hrk.below BK.out).rdn (by omega) (Nat.le_of_lt MK.out.lt)) hlk hcm (by omega)
      rw [← htl, ← Msg.absorb_append, ← htk] at ct
      clear hTk hg1k hok htk hsub htl hrk hck hcell
      obtain ⟨nk, hnk⟩ : ∃ nk, Hid ((ls.getD k []).length = nk) := ⟨_, rfl⟩
      rw [hnk.out] at hck' ct hlk
      go_wp2_with (go_at_call 47; ((with_reducible refine ct.mono ?_); rintro e w5 ⟨rfl, m5, g5⟩))
      go_roundw
      case rel => exact ⟨k + 1, by omega, by go_num, m5, RK.out.grown g5 (fun e => by injection e with e; omega), BK.out.grown g5 BK.out.size (fun j hj => by injection hj with hj; omega)⟩
      case measure => simp [intOf]; omega
    · obtain rfl : k = n := by omega
      have hfl : ls.take k = ls := List.take_of_length_le (by rw [HN.out]; omega)
      have MKo := MK.out
      rw [hfl] at MKo hok
      have ce := end_any g (start.absorb ls.flatten) ls.flatten.length hok wr MKo hTk hg0 hg1k htot
      have hheld := absorb_held ls.flatten start (by show 0 < 64; omega)
      have hh0 : start.held = 0 := rfl
      rw [hh0, Nat.zero_add] at hheld
      rw [hheld, ← Msg.absorb_append] at ce
      have hdg : digestOf (start.absorb (ls.flatten ++ tail (ls.flatten.length % 64) ls.flatten.length)).s = sha ls.flatten := rfl
      have HDG := hid_ hdg
      have hok2 := Msg.absorb_ok start_ok (ls.flatten ++ tail (ls.flatten.length % 64) ls.flatten.length)
      have cd := fun W h => digest_any g (start.absorb (ls.flatten ++ tail (ls.flatten.length % 64) ls.flatten.length)) hok2 W h
      rw [hdg] at cd
      generalize start.absorb (ls.flatten ++ tail (ls.flatten.length % 64) ls.flatten.length) = mz at ce cd hok2
      have e32 : (Tryd.prog.info? 22).map (·.size) = some (rowOf (sha ls.flatten)).size := by rw [rowOf_size, sha_len]; exact i32_
      have q32 : (rowOf (zbytes 32)).size = (rowOf (sha ls.flatten)).size := by rw [rowOf_size, rowOf_size, sha_len, zbytes_len]
      have E32 := hid_ e32
      have Q32 := hid_ q32
      clear e32 q32 hdg HDG hheld hh0 hok MKo hTk hg1k hfl hok2
      obtain ⟨dg, hdg⟩ : ∃ dg, Hid (sha ls.flatten = dg) := ⟨_, rfl⟩
      rw [hdg.out] at cd E32 Q32
      go_wp2_with (first
        | (go_at_call 48; ((with_reducible refine ce.mono ?_); rintro e w6 ⟨rfl, m6, g6⟩))
        | (go_at_call 49; ((with_reducible refine (cd _ m6).mono ?_); rintro e w7 ⟨rfl, b7⟩); have r7 := (RK.out.grown g6 (fun e => by injection e with e; omega)).below b7 (Nat.lt_of_lt_of_le RK.out.lt g6.size))
        | (refine wpList_put_row rfl 22 _ _ rfl w.heap.size (rowOf dg) rfl rfl 22 (rowOf (zbytes 32)) r7 E32.out Q32.out (bytes_one _) ?_; intro W9 k9 g9 s9))
      have f6 := BK.out.grown g6 BK.out.size (fun j hj => by injection hj with hj; omega)
      have f7 := f6.trans (b7.mono f6.size)
      exact bodyPost_ret (results_cell_row Tryd.results14 _ _ w.heap.size 22 _ (0, 0) _ rfl k9 Tryd.underlying22 rfl E32.out) rfl ⟨by rw [hdg.out], f7.grown g9 f7.size (fun k hk => by injection hk with hk; omega)⟩
end Go.Proofs.YtegfnlnbhhmkjaaDoor
