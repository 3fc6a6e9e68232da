/-
  Own rows of names and of blinds; names' and blinds' appends in one drawn region.
-/
import Derived.Test.YtoeofifibjelnaaDoorYn
import Derived.Great.BuildSlice
import Derived.Maps.AppendAt
namespace Go.Proofs.YtoeofifibjelnaaDoor
set_option maxRecDepth 100000
open Go.ChangeShapes Go.WideShapes Go.ChangeAt Go.RowKit
set_option linter.unusedVariables false
set_option linter.unusedSimpArgs false

theorem ordN_inj {N : List (List UInt8)} {s t : List UInt8} (hs : s ∈ N) (h : ordN N s = ordN N t) : s = t := by
  unfold ordN at h
  have h1 := List.idxOf_lt_length_of_mem hs
  have e1 : N[N.idxOf s] = s := List.getElem_idxOf h1
  have h2 : N.idxOf t < N.length := by omega
  have e2 : N[N.idxOf t] = t := List.getElem_idxOf h2
  have e : N.idxOf s = N.idxOf t := by omega
  rw [← e1, ← e2]
  simp only [e]
theorem ordN_add {N : List (List UInt8)} {s t : List UInt8} (h : t ∈ N) : ordN (addNm N s) t = ordN N t := by
  unfold addNm
  split
  · rfl
  · exact ordN_snoc h
theorem mem_addNm (N : List (List UInt8)) (s : List UInt8) : s ∈ addNm N s := by
  unfold addNm
  split
  · assumption
  · simp
theorem mem_addNm_of {N : List (List UInt8)} {s t : List UInt8} (h : t ∈ N) : t ∈ addNm N s := by
  unfold addNm
  split
  · exact h
  · exact List.mem_append_left _ h
theorem ordN_le {N : List (List UInt8)} {s : List UInt8} : ordN N s ≤ N.length + 1 := by
  unfold ordN
  have := (List.idxOf_le_length (a := s) (l := N))
  omega
theorem highB7 (n : Nat) (h : n < 256) : (highB 8 n).getD 7 0 = UInt8.ofNat n := by
  have : ∀ k : Fin 256, (highB 8 k.val).getD 7 0 = UInt8.ofNat k.val := by decide +kernel
  exact this ⟨n, h⟩
theorem drawB_inj {K : List UInt8} {i j : Nat} (hi : i < 256) (hj : j < 256) (h : drawB K 0 i 24 = drawB K 0 j 24) : i = j := by
  have e : (drawB K 0 i 24).getD 7 0 = (drawB K 0 j 24).getD 7 0 := by rw [h]
  rw [drawB_7, drawB_7, highB7 i hi, highB7 j hj] at e
  have e2 := congrArg UInt8.toNat e
  simp at e2
  omega
/-- What a name has for a blind. -/
def blN1 (K : List UInt8) (N : List (List UInt8)) (s : List UInt8) : List UInt8 := drawB K 0 (ordN N s) 24
theorem blN1_len (K : List UInt8) (N : List (List UInt8)) (s : List UInt8) : (blN1 K N s).length = 32 := drawB_len _ _ _ _
theorem blN1_iff {K : List UInt8} {N : List (List UInt8)} {s t : List UInt8} (hN : N.length ≤ 100) (hs : s ∈ N) : (blN1 K N s = blN1 K N t) ↔ s = t := by
  constructor
  · intro h
    have h1 := @ordN_le N s
    have h2 := @ordN_le N t
    exact ordN_inj hs (drawB_inj (by omega) (by omega) h)
  · intro h
    rw [h]
theorem blN1_map (K : List UInt8) {N Ns : List (List UInt8)} (s : List UInt8) (h : ∀ t ∈ Ns, t ∈ N) : Ns.map (blN1 K N) = Ns.map (blN1 K (addNm N s)) := by
  apply List.map_congr_left
  intro t ht
  unfold blN1
  rw [ordN_add (h t ht)]

def nmC (l : List (List UInt8)) : List Value := l.map fun s => .string (strOf s)
def blC (l : List (List UInt8)) : List Value := l.flatMap fun D => (rowOf D).toList
theorem nmC_len (l : List (List UInt8)) : (nmC l).length = l.length := by simp [nmC]
theorem blC_len : ∀ (l : List (List UInt8)), (∀ D ∈ l, D.length = 32) → (blC l).length = l.length * 32
  | [], _ => rfl
  | D :: l, h => by
    have ih := blC_len l (fun E hE => h E (List.mem_cons_of_mem _ hE))
    have e : blC (D :: l) = (rowOf D).toList ++ blC l := rfl
    have h32 : (rowOf D).toList.length = 32 := by rw [Array.length_toList, rowOf_size, h D (by simp)]
    rw [e, List.length_append, ih, List.length_cons, h32]
    omega
theorem blC_at : ∀ (l : List (List UInt8)) (k j : Nat) (h : k < l.length), (∀ D ∈ l, D.length = 32) → j < 32 → (blC l)[k * 32 + j]? = (rowOf l[k])[j]?
  | [], _, _, h, _, _ => absurd h (by simp)
  | D :: l, 0, j, _, h, hj => by
    have e : blC (D :: l) = (rowOf D).toList ++ blC l := rfl
    have h32 : (rowOf D).toList.length = 32 := by rw [Array.length_toList, rowOf_size, h D (by simp)]
    rw [e, List.getElem?_append_left (by omega)]
    simp
  | D :: l, k + 1, j, hk, h, hj => by
    have ih := blC_at l k j (by simpa using hk) (fun E hE => h E (List.mem_cons_of_mem _ hE)) hj
    have e : blC (D :: l) = (rowOf D).toList ++ blC l := rfl
    have h32 : (rowOf D).toList.length = 32 := by rw [Array.length_toList, rowOf_size, h D (by simp)]
    rw [e, List.getElem?_append_right (by omega), h32, show (k + 1) * 32 + j - 32 = k * 32 + j by omega, ih]
    simp
/-- v is a slice of strings (of blinds) of the call's own. -/
def OwnN (w : World) (base : Nat) (v : Value) (l : List (List UInt8)) : Prop := w.ownsRow base 9 1 v l.length (nmC l)
def OwnL (w : World) (base : Nat) (v : Value) (l : List (List UInt8)) : Prop := w.ownsRow base 31 32 v l.length (blC l) ∧ ∀ D ∈ l, D.length = 32
section
variable {w w' : World} {base : Nat} {v : Value} {l : List (List UInt8)} {F : List Nat}
theorem rowKeep {t : TypeId} {sz n : Nat} {xs : List Value} (h : w.ownsRow base t sz v n xs) (hu : Untouched F w w') (hF : ∀ g, v.ownBlock = some g → g ∉ F) : w'.ownsRow base t sz v n xs := by
  have hlt := World.ownsRow.lt h
  refine ⟨h.1, ?_⟩
  rcases h.2 with hn | ⟨g, cap, cur, rfl, hb, hg, rest⟩
  · exact .inl hn
  · exact .inr ⟨g, cap, cur, rfl, hb, (hu.block g (hlt g rfl).2 (hF g rfl)).trans hg, rest⟩
theorem rowForm {t : TypeId} {sz n : Nat} {xs : List Value} (h : w.ownsRow base t sz v n xs) : ∃ A c, v = .slice A n c := by
  rcases h.2 with ⟨hv, h0⟩ | ⟨g, cap, cur, hv, _⟩
  · exact ⟨none, 0, by rw [h0]; exact hv⟩
  · exact ⟨_, cap, hv⟩
theorem OwnN.nil_ (w : World) (base : Nat) : OwnN w base (.slice none 0 0) [] := World.ownsRow_nil w base 9 1
theorem OwnL.nil_ (w : World) (base : Nat) : OwnL w base (.slice none 0 0) [] := ⟨World.ownsRow_nil w base 31 32, fun D h => (by cases h)⟩
theorem OwnN.keep (h : OwnN w base v l) (hu : Untouched F w w') (hF : ∀ g, v.ownBlock = some g → g ∉ F) : OwnN w' base v l := rowKeep h hu hF
theorem OwnL.keep (h : OwnL w base v l) (hu : Untouched F w w') (hF : ∀ g, v.ownBlock = some g → g ∉ F) : OwnL w' base v l := ⟨rowKeep h.1 hu hF, h.2⟩
theorem OwnN.below (h : OwnN w base v l) (hb : Below w.heap.size w w') : OwnN w' base v l := h.keep (F := []) (.of_below hb) fun _ _ => by simp
theorem OwnL.below (h : OwnL w base v l) (hb : Below w.heap.size w w') : OwnL w' base v l := h.keep (F := []) (.of_below hb) fun _ _ => by simp
theorem OwnN.form (h : OwnN w base v l) : ∃ A c, v = .slice A l.length c := rowForm h
theorem OwnL.form (h : OwnL w base v l) : ∃ A c, v = .slice A l.length c := rowForm h.1
theorem OwnN.cells {A : Option Addr} {n c : Nat} (h : OwnN w base (.slice A n c) l) (k : Nat) (hk : k < l.length) : ∃ g, A = some ⟨g, 0, none⟩ ∧ w.cell? ⟨g, k, none⟩ = some (.string (strOf l[k])) := by
  have h0 := h
  rcases h.2 with ⟨hv, hz⟩ | ⟨g, cap, cur, hv, _⟩
  · omega
  · injection hv with e1 e2 e3
    subst e1 e2 e3
    refine ⟨g, rfl, ?_⟩
    rw [World.ownsRow.cellAt h0 k (by omega)]
    simp [nmC, hk]
theorem OwnL.cells {A : Option Addr} {n c : Nat} (h : OwnL w base (.slice A n c) l) (k : Nat) (hk : k < l.length) : ∃ g, A = some ⟨g, 0, none⟩ ∧ ∀ j, j < (rowOf l[k]).size → w.cell? ⟨g, k * 32 + j, none⟩ = (rowOf l[k])[j]? := by
  have h0 := h.1
  have h32 := h.2 l[k] (List.getElem_mem hk)
  rcases h.1.2 with ⟨hv, hz⟩ | ⟨g, cap, cur, hv, _⟩
  · omega
  · injection hv with e1 e2 e3
    subst e1 e2 e3
    refine ⟨g, rfl, fun j hj => ?_⟩
    rw [rowOf_size, h32] at hj
    have hl := blC_len l h.2
    rw [World.ownsRow.cellAt h0 (k * 32 + j) (by omega)]
    exact blC_at l k j hk h.2 hj
end
theorem apartNL {w : World} {b b' : Nat} {u v : Value} {l m : List (List UInt8)} (h : OwnN w b u l) (h2 : OwnL w b' v m) : ∀ k k', u.ownBlock = some k → v.ownBlock = some k' → k ≠ k' := fun k k' e e' hkk => by
  subst hkk
  rcases h.2 with ⟨rfl, _⟩ | ⟨g, cap, cur, rfl, _, hh, _⟩
  · cases e
  · rcases h2.1.2 with ⟨rfl, _⟩ | ⟨g', cap', cur', rfl, _, hh', _⟩
    · cases e'
    · injection e with e
      injection e' with e'
      simp only at e e'
      subst e
      subst e'
      rw [hh] at hh'
      injection hh' with hh'
      injection hh' with _ h3 _
      exact absurd h3 (by decide)
/-- The block of a value. -/
def obL (v : Value) : List Nat := v.ownBlock.toList
theorem mem_obL {v : Value} {k : Nat} : k ∈ obL v ↔ v.ownBlock = some k := by simp [obL]
theorem OwnL.grownN {w w' : World} {b b' : Nat} {u v : Value} {l m : List (List UInt8)} (h2 : OwnL w b' v m) (h : OwnN w b u l) (hg : w.grownBy w' u.ownBlock) : OwnL w' b' v m :=
  h2.keep (F := obL u) (.of_grown hg fun k e => mem_obL.2 e) fun g e hm => apartNL h h2 g g (mem_obL.1 hm) e rfl
theorem OwnN.grownL {w w' : World} {b b' : Nat} {u v : Value} {l m : List (List UInt8)} (h : OwnN w b u l) (h2 : OwnL w b' v m) (hg : w.grownBy w' v.ownBlock) : OwnN w' b u l :=
  h.keep (F := obL v) (.of_grown hg fun k e => mem_obL.2 e) fun g e hm => apartNL h h2 g g e (mem_obL.1 hm) rfl
/-- The block is the elder one's or a new one. -/
def FrB (v : Value) (B : Nat) (u : Value) : Prop := u.ownBlock = v.ownBlock ∨ ∃ k, u.ownBlock = some k ∧ B ≤ k
section
variable {w w' : World} {base : Nat} {v : Value} {l : List (List UInt8)} {F : List Nat}
theorem infoStY : (Tryd.prog.info? 9).map (fun i => (i.zero, i.size, i.bytes)) = some (some (.string ⟨#[]⟩), 1, 16) := by kernel_rfl
theorem infoBlY : (Tryd.prog.info? 31).map (fun i => (i.size, i.bytes, i.zero.map (·.cells.size))) = some (32, 32, some 32) := by kernel_rfl
theorem run_appN (h : OwnN w base v l) (s : List UInt8) (g : Nat) (hg : Bk w g 9 #[.string (strOf s)]) (ty : TypeId) (c : Nat) (hsz : l.length + 1 ≤ 1000000) (hbase : base ≤ w.heap.size) :
    ∃ v' w', (Builtin.append_ #[27, 27] ty #[v, .slice (some ⟨g, 0, none⟩) 1 c]).run Tryd.prog w = .ok v' w' ∧ OwnN w' base v' (l ++ [s]) ∧ w.grownBy w' v.ownBlock ∧ (v'.ownBlock = v.ownBlock ∨ v'.ownBlock = some w.heap.size) := by
  obtain ⟨i, hi, hz, hsize, hby⟩ := info_parts infoStY
  have hplain : ∀ j, (⟨g, 0, none⟩ : Addr).add j = ⟨g, j, none⟩ := fun j => by unfold Addr.add; split <;> simp_all
  obtain ⟨v', w', hrun, h2, h3, _, h5⟩ := run_append_own_at (P := Tryd.prog) w base 27 ty 9 i (.string ⟨#[]⟩) 1 16 Tryd.underlying27 hi hz hsize hby rfl (by decide) v l.length (nmC l) h ⟨g, 0, none⟩ 1 c (nmC [s])
    rfl (fun j u hj => by rw [hplain, hg.cell]; simpa [nmC] using hj) (fun u hu => by simp [nmC] at hu; subst hu; rfl) (by simp only [maxLen]; omega) (by omega) hbase
  refine ⟨v', w', hrun, ?_, h3, h5⟩
  unfold OwnN
  have e : nmC (l ++ [s]) = nmC l ++ nmC [s] := by simp [nmC]
  rw [List.length_append, e]
  exact h2
theorem rowOf_one (D : List UInt8) : ∀ u ∈ (rowOf D).toList, u.oneCell' = true := fun u hu => by
  have h := bytes_one D
  rw [← Array.all_toList] at h
  exact List.all_eq_true.1 h u hu
theorem run_appL (h : OwnL w base v l) (D : List UInt8) (hD : D.length = 32) (g : Nat) (hg : Bk w g 31 (rowOf D)) (ty : TypeId) (c : Nat) (hsz : l.length + 1 ≤ 1000000) (hbase : base ≤ w.heap.size) :
    ∃ v' w', (Builtin.append_ #[28, 28] ty #[v, .slice (some ⟨g, 0, none⟩) 1 c]).run Tryd.prog w = .ok v' w' ∧ OwnL w' base v' (l ++ [D]) ∧ w.grownBy w' v.ownBlock ∧ (v'.ownBlock = v.ownBlock ∨ v'.ownBlock = some w.heap.size) := by
  obtain ⟨i, hi, hii⟩ := Option.map_eq_some_iff.1 infoBlY
  simp only [Prod.mk.injEq] at hii
  obtain ⟨hsize, hby, hzz⟩ := hii
  obtain ⟨z, hz, hzs⟩ := Option.map_eq_some_iff.1 hzz
  have hplain : ∀ j, (⟨g, 0, none⟩ : Addr).add j = ⟨g, j, none⟩ := fun j => by unfold Addr.add; split <;> simp_all
  obtain ⟨v', w', hrun, h2, h3, _, h5⟩ := run_append_own_at (P := Tryd.prog) w base 28 ty 31 i z 32 32 Tryd.underlying28 hi hz hsize hby hzs (by decide) v l.length (blC l) h.1 ⟨g, 0, none⟩ 1 c (blC [D])
    (by simp [blC, rowOf_size, hD]) (fun j u hj => by rw [hplain, hg.cell]; simpa [blC] using hj) (fun u hu => rowOf_one D u (by simpa [blC] using hu)) (by simp only [maxLen]; omega) (by omega) hbase
  refine ⟨v', w', hrun, ⟨?_, fun E hE => ?_⟩, h3, h5⟩
  · have e : blC (l ++ [D]) = blC l ++ blC [D] := by simp [blC]
    rw [List.length_append, e]
    exact h2
  · rcases List.mem_append.1 hE with h6 | h6
    · exact h.2 E h6
    · simp at h6; subst h6; exact hD
end
/-- A slice of one blind. -/
theorem run_oneL (w : World) (D : List UInt8) (hD : D.length = 32) : (Instr.buildSlice 28 1 #[(0, .agg (rowOf D))]).run Tryd.prog w = .ok (.slice (some ⟨w.heap.size, 0, none⟩) 1 1) (w.alloc (.cells (rowOf D) 31)) := by
  obtain ⟨i, hi, hii⟩ := Option.map_eq_some_iff.1 infoBlY
  simp only [Prod.mk.injEq] at hii
  obtain ⟨hsize, hby, hzz⟩ := hii
  obtain ⟨z, hz, hzs⟩ := Option.map_eq_some_iff.1 hzz
  refine run_buildSlice w 28 31 1 _ (rowOf D) i z Tryd.underlying28 hi hz (by rw [hsize]; decide) (by rw [hsize]; decide) ?_
  rw [hsize]
  have h := Go.Great.fill_whole (s := 32) (by decide) [.agg (rowOf D)] ((Array.range (1 * 32)).map (z.cells[· % z.cells.size]!)) (fun v hv => by simp at hv; subst hv; simp [Value.cells, rowOf_size, hD]) (by simp)
  rw [show ([Value.agg (rowOf D)].flatMap fun v => v.cells.toList).toArray = rowOf D by simp [Value.cells]] at h
  exact h
theorem step_oneL {ops : Array Oper} {o : Oper} {a : Act} {w : World} {K : Act → World → Prop} {Q : Exit → Act → World → Prop} {E : Prop} (hw : Region.wanted o (yielded ops a.tmps) = true) (x : Operand) (ho : o.op = .buildSlice 28 1 #[(0, x)]) (D : List UInt8) (hx : a.eval x = .agg (rowOf D)) (hD : D.length = 32)
    (hk : K (a.put o.dst (.slice (some ⟨w.heap.size, 0, none⟩) 1 1)) (w.alloc (.cells (rowOf D) 31))) : if Region.wanted o (yielded ops a.tmps) = true then Oper.wp Tryd.prog o a w K Q else E := by
  refine step_run hw (v := .slice (some ⟨w.heap.size, 0, none⟩) 1 1) (w' := w.alloc (.cells (rowOf D) 31)) ?_ hk
  unfold execOp
  simp only [ho, Sem.run_bind, Sem.run_pure, List.map_toArray, List.map_cons, List.map_nil, hx, run_oneL w D hD, Result.andThen_ok]
theorem eqBY2 (l m : List UInt8) (hl : l.length = 32) (hm : m.length = 32) (W : World) : (Op.equalIn 10000 31 (.agg (rowOf l)) (.agg (rowOf m))).run Tryd.prog W = .ok (l == m) W := by
  have hs : ∀ W : World, (sizeOf 5).run Tryd.prog W = .ok 1 W := fun W => by
    obtain ⟨i, hi, hz, hsize, hby⟩ := info_parts info8
    simp [sizeOf, typeInfo, hi, hsize]
  exact run_equalIn_bytes W 9998 31 5 32 Tryd.underlying31 Tryd.underlying5 hs l m hl hm
theorem eqlBY2 (l m : List UInt8) (hl : l.length = 32) (hm : m.length = 32) (W : World) : (binOp .eql 31 (.agg (rowOf l)) (.agg (rowOf m))).run Tryd.prog W = .ok (.bool (l == m)) W := by
  simp only [binOp]
  simp [Op.equal, Op.maxDepth, eqBY2 l m hl hm W, Result.andThen]
theorem ordN_self (N : List (List UInt8)) (s : List UInt8) : ordN (addNm N s) s = ordN N s := by
  unfold addNm
  split
  · rfl
  · rename_i h
    rw [ordN_new h]
    unfold ordN
    rw [List.idxOf_append, if_neg h]
    simp
/-- Two chains of one call each, in whichever order, and a name for what each gave. -/
structure JU (i1 i2 i3 i4 s1 s2 d1 d2 : Nat) (P0 Q0 : World → Prop) (P1 Q1 : Value → World → Prop) (D : Nat → Bool) (a : Act) (W : World) : Prop where
  p0 : D i1 = false → P0 W
  p1 : D i1 = true → P1 (a.tmps.getD s1 undef) W
  q0 : D i2 = false → Q0 W
  q1 : D i2 = true → Q1 (a.tmps.getD s2 undef) W
  e1 : D i3 = true → D i1 = true ∧ a.tmps.getD d1 undef = a.tmps.getD s1 undef
  e2 : D i4 = true → D i2 = true ∧ a.tmps.getD d2 undef = a.tmps.getD s2 undef
section
variable {i1 i2 i3 i4 s1 s2 d1 d2 : Nat} {P0 Q0 : World → Prop} {P1 Q1 : Value → World → Prop} {D : Nat → Bool} {a : Act} {W W' : World}
theorem JU.other (h : JU i1 i2 i3 i4 s1 s2 d1 d2 P0 Q0 P1 Q1 D a W) (i s : Nat) (v : Value) (hi : i1 ≠ i ∧ i2 ≠ i ∧ i3 ≠ i ∧ i4 ≠ i) (hs : s1 ≠ s ∧ s2 ≠ s ∧ d1 ≠ s ∧ d2 ≠ s)
    (k1 : P0 W → P0 W') (k2 : Q0 W → Q0 W') (k3 : ∀ u, P1 u W → P1 u W') (k4 : ∀ u, Q1 u W → Q1 u W') : JU i1 i2 i3 i4 s1 s2 d1 d2 P0 Q0 P1 Q1 (fun j => decide (j = i) || D j) (a.put (some s) v) W' := by
  refine ⟨?_, ?_, ?_, ?_, ?_, ?_⟩
  · rw [orf_ne hi.1]; exact fun e => k1 (h.p0 e)
  · rw [orf_ne hi.1, put_otherY hs.1]; exact fun e => k3 _ (h.p1 e)
  · rw [orf_ne hi.2.1]; exact fun e => k2 (h.q0 e)
  · rw [orf_ne hi.2.1, put_otherY hs.2.1]; exact fun e => k4 _ (h.q1 e)
  · rw [orf_ne hi.1, orf_ne hi.2.2.1, put_otherY hs.1, put_otherY hs.2.2.1]; exact h.e1
  · rw [orf_ne hi.2.1, orf_ne hi.2.2.2, put_otherY hs.2.1, put_otherY hs.2.2.2]; exact h.e2
theorem JU.same (h : JU i1 i2 i3 i4 s1 s2 d1 d2 P0 Q0 P1 Q1 D a W) (i s : Nat) (v : Value) (hi : i1 ≠ i ∧ i2 ≠ i ∧ i3 ≠ i ∧ i4 ≠ i) (hs : s1 ≠ s ∧ s2 ≠ s ∧ d1 ≠ s ∧ d2 ≠ s) : JU i1 i2 i3 i4 s1 s2 d1 d2 P0 Q0 P1 Q1 (fun j => decide (j = i) || D j) (a.put (some s) v) W :=
  h.other i s v hi hs (fun x => x) (fun x => x) (fun _ x => x) (fun _ x => x)
theorem JU.first (h : JU i1 i2 i3 i4 s1 s2 d1 d2 P0 Q0 P1 Q1 D a W) (v : Value) (hL : D i1 = false) (hi : i2 ≠ i1 ∧ i3 ≠ i1 ∧ i4 ≠ i1) (hs : s2 ≠ s1 ∧ d2 ≠ s1) (hsz : s1 < a.tmps.size) (hp : P0 W → P1 v W') (k2 : Q0 W → Q0 W') (k4 : ∀ u, Q1 u W → Q1 u W') :
    JU i1 i2 i3 i4 s1 s2 d1 d2 P0 Q0 P1 Q1 (fun j => decide (j = i1) || D j) (a.put (some s1) v) W' := by
  have h3 : D i3 = false := by
    cases e : D i3 with
    | false => rfl
    | true => rw [(h.e1 e).1] at hL; cases hL
  refine ⟨fun e => ?_, fun _ => ?_, ?_, ?_, fun e => ?_, ?_⟩
  · rw [orf_eq] at e; cases e
  · rw [put_selfY hsz]; exact hp (h.p0 hL)
  · rw [orf_ne hi.1]; exact fun e => k2 (h.q0 e)
  · rw [orf_ne hi.1, put_otherY hs.1]; exact fun e => k4 _ (h.q1 e)
  · rw [orf_ne hi.2.1, h3] at e; cases e
  · rw [orf_ne hi.1, orf_ne hi.2.2, put_otherY hs.1, put_otherY hs.2]; exact h.e2
theorem JU.second (h : JU i1 i2 i3 i4 s1 s2 d1 d2 P0 Q0 P1 Q1 D a W) (v : Value) (hL : D i2 = false) (hi : i1 ≠ i2 ∧ i3 ≠ i2 ∧ i4 ≠ i2) (hs : s1 ≠ s2 ∧ d1 ≠ s2) (hsz : s2 < a.tmps.size) (hp : Q0 W → Q1 v W') (k1 : P0 W → P0 W') (k3 : ∀ u, P1 u W → P1 u W') :
    JU i1 i2 i3 i4 s1 s2 d1 d2 P0 Q0 P1 Q1 (fun j => decide (j = i2) || D j) (a.put (some s2) v) W' := by
  have h4 : D i4 = false := by
    cases e : D i4 with
    | false => rfl
    | true => rw [(h.e2 e).1] at hL; cases hL
  refine ⟨?_, ?_, fun e => ?_, fun _ => ?_, ?_, fun e => ?_⟩
  · rw [orf_ne hi.1]; exact fun e => k1 (h.p0 e)
  · rw [orf_ne hi.1, put_otherY hs.1]; exact fun e => k3 _ (h.p1 e)
  · rw [orf_eq] at e; cases e
  · rw [put_selfY hsz]; exact hp (h.q0 hL)
  · rw [orf_ne hi.1, orf_ne hi.2.1, put_otherY hs.1, put_otherY hs.2]; exact h.e1
  · rw [orf_ne hi.2.2, h4] at e; cases e
theorem JU.third (h : JU i1 i2 i3 i4 s1 s2 d1 d2 P0 Q0 P1 Q1 D a W) (h1 : D i1 = true) (hi : i1 ≠ i3 ∧ i2 ≠ i3 ∧ i4 ≠ i3) (hs : s1 ≠ d1 ∧ s2 ≠ d1 ∧ d2 ≠ d1) (hsz : d1 < a.tmps.size) : JU i1 i2 i3 i4 s1 s2 d1 d2 P0 Q0 P1 Q1 (fun j => decide (j = i3) || D j) (a.put (some d1) (a.tmps.getD s1 undef)) W := by
  refine ⟨?_, ?_, ?_, ?_, fun _ => ?_, ?_⟩
  · rw [orf_ne hi.1]; exact h.p0
  · rw [orf_ne hi.1, put_otherY hs.1]; exact h.p1
  · rw [orf_ne hi.2.1]; exact h.q0
  · rw [orf_ne hi.2.1, put_otherY hs.2.1]; exact h.q1
  · rw [orf_ne hi.1, put_selfY hsz, put_otherY hs.1]; exact ⟨h1, rfl⟩
  · rw [orf_ne hi.2.1, orf_ne hi.2.2, put_otherY hs.2.1, put_otherY hs.2.2]; exact h.e2
theorem JU.fourth (h : JU i1 i2 i3 i4 s1 s2 d1 d2 P0 Q0 P1 Q1 D a W) (h2 : D i2 = true) (hi : i1 ≠ i4 ∧ i2 ≠ i4 ∧ i3 ≠ i4) (hs : s1 ≠ d2 ∧ s2 ≠ d2 ∧ d1 ≠ d2) (hsz : d2 < a.tmps.size) : JU i1 i2 i3 i4 s1 s2 d1 d2 P0 Q0 P1 Q1 (fun j => decide (j = i4) || D j) (a.put (some d2) (a.tmps.getD s2 undef)) W := by
  refine ⟨?_, ?_, ?_, ?_, ?_, fun _ => ?_⟩
  · rw [orf_ne hi.1]; exact h.p0
  · rw [orf_ne hi.1, put_otherY hs.1]; exact h.p1
  · rw [orf_ne hi.2.1]; exact h.q0
  · rw [orf_ne hi.2.1, put_otherY hs.2.1]; exact h.q1
  · rw [orf_ne hi.1, orf_ne hi.2.2, put_otherY hs.1, put_otherY hs.2.2]; exact h.e1
  · rw [orf_ne hi.2.1, put_selfY hsz, put_otherY hs.2.1]; exact ⟨h2, rfl⟩
theorem JU.start (hp : P0 W) (hq : Q0 W) : JU i1 i2 i3 i4 s1 s2 d1 d2 P0 Q0 P1 Q1 (fun _ => false) a W :=
  ⟨fun _ => hp, fun e => Bool.noConfusion e, fun _ => hq, fun e => Bool.noConfusion e, fun e => Bool.noConfusion e, fun e => Bool.noConfusion e⟩
end
end Go.Proofs.YtoeofifibjelnaaDoor
