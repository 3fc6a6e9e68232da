/-
  Maps as functions of their keys: what a block holds, a look-up, a store, the count; the keys of a vault's maps.
-/
import Derived.Test.YtoeofifibjelnaaDoorLp
import Derived.Maps.OwnSet
import Derived.DeepKeys4
namespace Go.Proofs.YtoeofifibjelnaaDoor
set_option maxRecDepth 100000
open Go.RowKit Go.Maps
set_option linter.unusedVariables false
set_option linter.unusedSimpArgs false

theorem hidya_ {p : Prop} (h : p) : Hid p := h
/-- An element, whatever it is, is told as itself. -/
def Rh (v : Value) : Option (DataW Value × List MemPlace) := some (.held v, [])
open Classical in
noncomputable def upd (f : Value → Option Value) (k v : Value) : Value → Option Value := fun x => if x = k then some v else f x
theorem upd_same (f : Value → Option Value) (k v : Value) : upd f k v k = some v := by simp [upd]
theorem upd_other {f : Value → Option Value} {k v x : Value} (h : x ≠ k) : upd f k v x = f x := by simp [upd, h]
/-- What a map tells at a key. -/
def TellsAt (D : DataW Value) (kl : Lit) : Option Value → Prop
  | some v => Maps.has D kl = true ∧ ∀ z, D.atKey kl z = .held v
  | none => Maps.has D kl = false
/-- Block b is a map of n entries that tells f. -/
def MapIs (w : World) (k : TypeId) (b n : Nat) (f : Value → Option Value) : Prop :=
  ∃ D, w.ownsMap Tryd.prog k Rh b n D ∧ Maps.size D = n ∧ ∀ key kl, keyOf Tryd.prog k key = some kl → TellsAt D kl (f key)
section
variable {w w' : World} {k t e : TypeId} {b n : Nat} {f : Value → Option Value}
theorem MapIs.made (w : World) (k : TypeId) : MapIs (w.alloc (.map #[] 0)) k w.heap.size 0 (fun _ => none) :=
  ⟨.map [], World.ownsMap_made w _ _ _, rfl, fun _ _ _ => rfl⟩
theorem MapIs.lt (h : MapIs w k b n f) : b < w.heap.size := by
  obtain ⟨D, h1, _⟩ := h
  exact h1.lt
theorem MapIs.keep (h : MapIs w k b n f) (hb : w'.heap[b]? = w.heap[b]?) : MapIs w' k b n f := by
  obtain ⟨D, ⟨es, clock, h0, r⟩, h2⟩ := h
  exact ⟨D, ⟨es, clock, hb.trans h0, r⟩, h2⟩
theorem MapIs.notCells (h : MapIs w k b n f) {cs : Array Value} {ty : TypeId} {fz : Nat × Nat} : w.heap[b]? ≠ some (.cells cs ty fz) := by
  obtain ⟨D, ⟨es, clock, h0, _⟩, _⟩ := h
  rw [h0]
  intro e
  cases e
theorem MapIs.look (h : MapIs w k b n f) (K : Keyed Tryd.prog k) (ht : Tryd.prog.underlying t = some (.map k e)) {z : Value} (hz : (zeroValue e).run Tryd.prog w = .ok z w) {key : Value} {kl : Lit} (hkey : keyOf Tryd.prog k key = some kl) :
    (Instr.lookup t (.map (some b)) key true).run Tryd.prog w = .ok (.tuple #[(f key).getD z, .bool (f key).isSome]) w := by
  obtain ⟨D, hown, hs, hf⟩ := h
  obtain ⟨v, ps, hrun, hv⟩ := hown.look_ok K ht hz (zd := .held z) (zp := []) rfl hkey
  have hv2 : DataW.held v = D.atKey kl (.held z) := by
    have := Option.some.inj hv
    exact congrArg Prod.fst this
  have hk := hf key kl hkey
  rw [hrun]
  cases hfk : f key with
  | none =>
    rw [hfk] at hk
    have h1 : Maps.has D kl = false := hk
    rw [Maps.atKey_of_not_has h1] at hv2
    injection hv2 with hv2
    rw [hv2, h1]
    rfl
  | some u =>
    rw [hfk] at hk
    rw [hk.2] at hv2
    injection hv2 with hv2
    rw [hv2, hk.1]
    rfl
theorem MapIs.store (h : MapIs w k b n f) (K : Keyed Tryd.prog k) (ht : Tryd.prog.underlying t = some (.map k e)) (hn : n < maxLen) {key val : Value} {kl : Lit} (hkey : keyOf Tryd.prog k key = some kl) (hnew : f key = none) :
    ∃ w', (Instr.mapUpdate t (.map (some b)) key val).run Tryd.prog w = .ok () w' ∧ MapIs w' k b (n + 1) (upd f key val) ∧ w.mapTurned w' b := by
  obtain ⟨D, hown, hs, hf⟩ := h
  obtain ⟨w', hrun, h1, h2⟩ := hown.store K ht hn hkey (d := .held val) (ps := []) rfl
  have hT := hown.tidy K
  have hk0 := hf key kl hkey
  rw [hnew] at hk0
  have h0 : Maps.has D kl = false := hk0
  refine ⟨w', hrun, ⟨_, h1, ?_, ?_⟩, h2⟩
  · rw [Maps.size_put hT, h0, hs]
    rfl
  · intro key' kl' hk'
    by_cases he : key' = key
    · subst he
      rw [upd_same]
      rw [hkey] at hk'
      injection hk' with hk'
      subst hk'
      exact ⟨Maps.has_put_same hT.isMap (K.key hkey) _, fun z => Maps.atKey_put_same hT.isMap (K.key hkey) _ _⟩
    · rw [upd_other he]
      have hne : kl' ≠ kl := fun e => he (K.inj hk' (e ▸ hkey))
      have hh := hf key' kl' hk'
      cases hf' : f key' with
      | none =>
        rw [hf'] at hh
        exact (Maps.has_put_other hne _).trans hh
      | some u =>
        rw [hf'] at hh
        exact ⟨(Maps.has_put_other hne _).trans hh.1, fun z => (Maps.atKey_put_other hne _ _).trans (hh.2 z)⟩
theorem MapIs.len (h : MapIs w k b n f) (ht : Tryd.prog.underlying t = some (.map k e)) (ty : TypeId) : (Builtin.len_ #[t] ty #[.map (some b)]).run Tryd.prog w = .ok (.int .i64 (n : Int)) w := by
  obtain ⟨D, hown, hs, _⟩ := h
  rw [hown.len ht ty, hs]
end
/-- The keys. -/
theorem keyed9 : Keyed Tryd.prog 9 := string_keyed Tryd.underlying9
theorem keyedS : Keyed Tryd.prog 58 := Keyed.of_law (deep_law_laid laidOut_ (m := 3) (by omega) (of_decide_eq_true (by kernel_rfl)) (by kernel_rfl) (by kernel_rfl))
theorem keyedB : Keyed Tryd.prog 64 := Keyed.of_law (deep_law_laid laidOut_ (m := 3) (by omega) (of_decide_eq_true (by kernel_rfl)) (by kernel_rfl) (by kernel_rfl))
def okI (x : Int) : Prop := -9223372036854775808 ≤ x ∧ x ≤ 9223372036854775807
theorem okI.wf {x : Int} (h : okI x) : (Lit.int .i64 x).wf = true := by
  have h1 : IntKind.i64.min = -9223372036854775808 := by decide
  have h2 : IntKind.i64.max = 9223372036854775807 := by decide
  simp only [Lit.wf, h1, h2, Bool.and_eq_true, decide_eq_true_eq]
  exact h
theorem key9 (s : List UInt8) (h : s.length ≤ 1000000) : keyOf Tryd.prog 9 (.string (strOf s)) = some (.string s) := by
  have h1 : (strOf s).size ≤ maxLen := by rw [strOf_size]; unfold maxLen; omega
  have h2 : (strOf s).data.toList = s := by simp [strOf]
  unfold keyOf
  simp [Tryd.underlying9, mapKey, h1, h2]
/-- A sealing. -/
def sKey (c n : Int) : Value := .agg #[.int .i64 c, .int .i64 n]
theorem keyTypeS : Tryd.prog.keyType 58 = true := by kernel_rfl
theorem keyTypeB : Tryd.prog.keyType 64 = true := by kernel_rfl
theorem cellsS : Tryd.prog.cellsOf 58 = 2 := by kernel_rfl
theorem cellsB : Tryd.prog.cellsOf 64 = 5 := by kernel_rfl
theorem cellsI_ : Tryd.prog.cellsOf 3 = 1 := by kernel_rfl
theorem cellsT_ : Tryd.prog.cellsOf 9 = 1 := by kernel_rfl
theorem lits_int (d : Nat) (x : Int) (h : okI x) : Tryd.prog.keyLits (d + 1) 3 [.int .i64 x] = some [.int .i64 x] := by
  unfold Program.keyLits
  simp [Tryd.underlying3, h.wf]
theorem lits_str (d : Nat) (s : List UInt8) (h : s.length ≤ 1000000) : Tryd.prog.keyLits (d + 1) 9 [.string (strOf s)] = some [.string s] := by
  unfold Program.keyLits
  have : (strOf s).size ≤ maxLen := by rw [strOf_size]; unfold maxLen; omega
  have h2 : (strOf s).data.toList = s := by simp [strOf]
  simp [Tryd.underlying9, this, h2]
theorem sKey_lit (c n : Int) (hc : okI c) (hn : okI n) : ∃ kl, keyOf Tryd.prog 58 (sKey c n) = some kl := by
  obtain ⟨d, hd⟩ : ∃ d, Tryd.prog.types.size = d + 1 := ⟨_, (show Tryd.prog.types.size = (Tryd.prog.types.size - 1) + 1 by kernel_rfl)⟩
  have hl : Tryd.prog.keyLits (d + 2) 58 [.int .i64 c, .int .i64 n] = some [.int .i64 c, .int .i64 n] := by
    unfold Program.keyLits
    have h1 := lits_int d c hc
    have h2 := lits_int d n hn
    simp [Tryd.underlying58, cellsS, cellsI_, h1, h2]
  refine ⟨.string (keyBytes [.int .i64 c, .int .i64 n]), ?_⟩
  have hf : (sKey c n).formed Tryd.prog 58 = true := by simp [sKey, Value.formed, Tryd.underlying58, cellsS]
  unfold keyOf
  simp only [Tryd.underlying58, keyTypeS, hf, hd, Bool.and_self, if_true]
  rw [show (sKey c n).cells.toList = [.int .i64 c, .int .i64 n] from rfl, hl]
  rfl
/-- What bytes were sealed by, and as what. -/
def bKey (e c n : Int) (x s : List UInt8) : Value := .agg #[.int .i64 e, .int .i64 c, .int .i64 n, .string (strOf x), .string (strOf s)]
theorem bKey_lit (e c n : Int) (x s : List UInt8) (he : okI e) (hc : okI c) (hn : okI n) (hx : x.length ≤ 1000000) (hs : s.length ≤ 1000000) : ∃ kl, keyOf Tryd.prog 64 (bKey e c n x s) = some kl := by
  obtain ⟨d, hd⟩ : ∃ d, Tryd.prog.types.size = d + 1 := ⟨_, (show Tryd.prog.types.size = (Tryd.prog.types.size - 1) + 1 by kernel_rfl)⟩
  have hl : Tryd.prog.keyLits (d + 2) 64 [.int .i64 e, .int .i64 c, .int .i64 n, .string (strOf x), .string (strOf s)] = some [.int .i64 e, .int .i64 c, .int .i64 n, .string x, .string s] := by
    unfold Program.keyLits
    have h0 := lits_int d e he
    have h1 := lits_int d c hc
    have h2 := lits_int d n hn
    have h3 := lits_str d x hx
    have h4 := lits_str d s hs
    simp [Tryd.underlying64, cellsB, cellsI_, cellsT_, h0, h1, h2, h3, h4]
  refine ⟨.string (keyBytes [.int .i64 e, .int .i64 c, .int .i64 n, .string x, .string s]), ?_⟩
  have hf : (bKey e c n x s).formed Tryd.prog 64 = true := by simp [bKey, Value.formed, Tryd.underlying64, cellsB]
  unfold keyOf
  simp only [Tryd.underlying64, keyTypeB, hf, hd, Bool.and_self, if_true]
  rw [show (bKey e c n x s).cells.toList = [.int .i64 e, .int .i64 c, .int .i64 n, .string (strOf x), .string (strOf s)] from rfl, hl]
  rfl
theorem sKey_inj {c n c' n' : Int} (h : sKey c n = sKey c' n') : c = c' ∧ n = n' := by
  simpa [sKey] using h
theorem bKey_inj {e c n e' c' n' : Int} {x s x' s' : List UInt8} (h : bKey e c n x s = bKey e' c' n' x' s') : e = e' ∧ c = c' ∧ n = n' ∧ x = x' ∧ s = s' := by
  simpa [bKey, strOf_inj] using h
end Go.Proofs.YtoeofifibjelnaaDoor
