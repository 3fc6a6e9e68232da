/-
  What lies behind the pointer of the reference's net: two slices of rows of strings.
-/
import Derived.Test.YtdkemjipbkanoaaVf
namespace Go.Proofs.Ytdkemjipbkanoaa
open Go.RowKit
set_option linter.unusedVariables false
set_option linter.unusedSimpArgs false

theorem infoStr : (Try.prog.info? 9).map (fun i => (i.zero, i.size, i.bytes)) = some (some (.string ⟨#[]⟩), 1, 16) := by kernel_rfl
/-- A row of strings: own blocks among F. -/
def strs (ls : List (List UInt8)) : List Value := ls.map fun m => .string (strOf m)
def RowS (w : World) (F : List Nat) (v : Value) (ls : List (List UInt8)) : Prop := w.ownsRow 0 9 1 v ls.length (strs ls) ∧ ∀ g, v.ownBlock = some g → g ∈ F
theorem strs_len (ls : List (List UInt8)) : (strs ls).length = ls.length := by simp [strs]
theorem strs_at (ls : List (List UInt8)) (j : Nat) (hj : j < ls.length) : (strs ls)[j]? = some (.string (strOf (ls.getD j []))) := by simp [strs, hj, List.getD]
section
variable {w w' w1 : World} {F F' : List Nat} {u v v' : Value} {m : List UInt8} {ls : List (List UInt8)}
theorem RowS.nil_ (w : World) (F : List Nat) : RowS w F (.slice none 0 0) [] := ⟨World.ownsRow_nil w 0 9 1, fun g hg => (by cases hg)⟩
theorem RowS.lt (h : RowS w F v ls) : ∀ g, v.ownBlock = some g → g < w.heap.size ∧ g ∈ F := fun g hg => ⟨(World.ownsRow.lt h.1 g hg).2, h.2 g hg⟩
theorem RowS.ty (h : RowS w F v ls) : ∀ g, v.ownBlock = some g → ∃ cs, Bk w g 9 cs := fun g hg => by
  rcases h.1.2 with ⟨hv, _⟩ | ⟨g', cap, cur, hv, _, hh, _⟩
  · subst hv; cases hg
  · subst hv
    injection hg with hg
    simp only at hg
    subst hg
    exact ⟨cur, hh⟩
theorem RowS.form (h : RowS w F v ls) : ∃ A c, v = .slice A ls.length c ∧ ls.length ≤ c ∧ c ≤ maxLen := by
  rcases h.1.2 with ⟨hv, h0⟩ | ⟨g, cap, cur, hv, _, _, hn, hm, _⟩
  · exact ⟨none, 0, by rw [h0]; exact hv, by omega, Nat.zero_le _⟩
  · exact ⟨_, cap, hv, hn, hm⟩
theorem RowS.cell {A : Option Addr} {n c : Nat} (h : RowS w F (.slice A n c) ls) (j : Nat) (hj : j < ls.length) : ∃ g, A = some ⟨g, 0, none⟩ ∧ w.cell? ⟨g, j, none⟩ = some (.string (strOf (ls.getD j []))) ∧ g < w.heap.size := by
  have hlt := h.lt
  rcases h.1.2 with ⟨hv, h0⟩ | ⟨g, cap, cur, hv, _⟩
  · omega
  · injection hv with e1 e2 e3
    subst e1 e2 e3
    refine ⟨g, rfl, ?_, (hlt g rfl).1⟩
    rw [World.ownsRow.cellAt h.1 j (by omega)]
    exact strs_at ls j hj
theorem RowS.keep (h : RowS w F v ls) (hg : ∀ g, v.ownBlock = some g → w'.heap[g]? = w.heap[g]?) (hF : ∀ k ∈ F, k ∈ F') : RowS w' F' v ls := ⟨ownsRow_heap h.1 hg, fun g e => hF g (h.2 g e)⟩
theorem RowS.below {B : Nat} (h : RowS w F v ls) (hb : Below B w w') (hB : w.heap.size ≤ B) (hF : ∀ k ∈ F, k ∈ F') : RowS w' F' v ls := h.keep (fun g e => hb.block g (Nat.lt_of_lt_of_le (h.lt g e).1 hB)) hF
/-- append of strings that lie one behind the other. -/
theorem run_appStr (h : RowS w F v ls) (a0 : Addr) (ms : List (List UInt8)) (hc : ∀ j, j < ms.length → w.cell? (a0.add j) = some (.string (strOf (ms.getD j [])))) (n : Nat) (hn : ms.length = n) (ty : TypeId) (c : Nat) (hsz : ls.length + n ≤ 1000000) :
    ∃ v' w', (Builtin.append_ #[46, 46] ty #[v, .slice (some a0) n c]).run Try.prog w = .ok v' w' ∧ RowS w' (since F w w') v' (ls ++ ms) ∧ w.grownBy w' v.ownBlock ∧ (v'.ownBlock = v.ownBlock ∨ v'.ownBlock = some w.heap.size) := by
  subst hn
  obtain ⟨i, hi, hz, hsize, hby⟩ := info_parts infoStr
  obtain ⟨v', w', hrun, h5, h4, _, h6⟩ := run_append_own_at (P := Try.prog) w 0 46 ty 9 i (.string ⟨#[]⟩) 1 16 Try.underlying46 hi hz hsize hby rfl (by decide) v ls.length (strs ls) h.1 a0 ms.length c (strs ms)
      (by rw [strs_len]; omega) (fun j x hx => by
        have hj : j < ms.length := by rw [← strs_len]; exact (List.getElem?_eq_some_iff.1 hx).1
        rw [strs_at ms j hj] at hx
        rw [hc j hj]
        exact hx) (fun x hx => by
          simp only [strs, List.mem_map] at hx
          obtain ⟨m, _, rfl⟩ := hx
          rfl) (by simp only [maxLen]; omega) (by omega) (Nat.zero_le _)
  refine ⟨v', w', hrun, ⟨?_, fun g e => ?_⟩, h4, h6⟩
  · rw [List.length_append, show strs (ls ++ ms) = strs ls ++ strs ms by simp [strs]]
    exact h5
  · rcases h6 with e6 | e6
    · exact mem_since.2 (.inl (h.2 g (by rw [← e6]; exact e)))
    · have := (World.ownsRow.lt h5 _ e6).2
      rw [e6] at e
      injection e with e
      subst e
      exact mem_since.2 (.inr ⟨Nat.le_refl _, this⟩)
/-- The same, whatever row it is. -/
theorem run_appRow (h : RowS w F v ls) {A : Option Addr} {n c : Nat} {ms : List (List UInt8)} {G : List Nat} (hr : RowS w G (.slice A n c) ms) (ty : TypeId) (hsz : ls.length + ms.length ≤ 1000000) :
    ∃ v' w', (Builtin.append_ #[46, 46] ty #[v, .slice A n c]).run Try.prog w = .ok v' w' ∧ RowS w' (since F w w') v' (ls ++ ms) ∧ w.grownBy w' v.ownBlock ∧ (v'.ownBlock = v.ownBlock ∨ v'.ownBlock = some w.heap.size) := by
  obtain ⟨A', c', e, _⟩ := hr.form
  injection e with e1 e2 e3
  subst e1 e2 e3
  cases A with
  | some a0 =>
    refine run_appStr h a0 ms (fun j hj => ?_) ms.length rfl ty c hsz
    obtain ⟨g, e, hc, _⟩ := hr.cell j hj
    injection e with e
    subst e
    have e : (⟨g, 0, none⟩ : Addr).add j = ⟨g, j, none⟩ := by
      unfold Addr.add
      split <;> simp_all
    rw [e]
    exact hc
  | none =>
    have h0 : ms = [] := by
      rcases Nat.eq_zero_or_pos ms.length with h0 | h0
      · exact List.eq_nil_of_length_eq_zero h0
      · obtain ⟨g, e, _⟩ := hr.cell 0 h0
        cases e
    subst h0
    obtain ⟨i, hi, hz, hsize, hby⟩ := info_parts infoStr
    obtain ⟨B, d, rfl, h1, h2⟩ := h.form
    refine ⟨.slice B ls.length d, w, ?_, by rw [List.append_nil]; exact h.keep (fun _ _ => rfl) (fun k hk => mem_since.2 (.inl hk)), World.grownBy.refl _ _, .inl rfl⟩
    cases B with
    | none =>
      have hd : d = 0 ∧ ls.length = 0 := by
        rcases h.1.2 with ⟨hv, h0⟩ | ⟨g, cap, cur, hv, _⟩
        · injection hv with e1 e2 e3
          exact ⟨e3, h0⟩
        · injection hv with e1 e2 e3
          cases e1
      obtain ⟨rfl, hl0⟩ := hd
      rw [hl0]
      simp [Builtin.append_, run_underlying Try.underlying46, sizeOf, typeInfo, hi, Builtin.lenOf, Builtin.firstCells, storeCells]
    | some b0 => simp [Builtin.append_, run_underlying Try.underlying46, sizeOf, typeInfo, hi, Builtin.lenOf, Builtin.firstCells, storeCells, h1]
end
/-- Where the j-th row's slice lies: the rows of L, behind them those of Seen. -/
def loc (q s n j : Nat) : Addr := if j < n then ⟨q, j, none⟩ else ⟨s, j - n, none⟩
/-- What lies behind the reference's net's pointer. -/
structure RefF (w : World) (p q s n : Nat) (Z : List (List (List UInt8))) (F : List Nat) : Prop where
  hF : ∀ k ∈ F, k < w.heap.size
  hp : p ∈ F
  hq : q ∈ F
  hs : s ∈ F
  bp : Bk w p 49 #[.slice (some ⟨q, 0, none⟩) n n, .slice (some ⟨s, 0, none⟩) n n]
  hl : Z.length = 2 * n
  hn : n ≤ 9
  hqs : q ≠ s
  bq : ∃ C, Bk w q 46 C ∧ C.size = n
  bs : ∃ C, Bk w s 46 C ∧ C.size = n
  row : ∀ j, j < 2 * n → ∃ v, w.cell? (loc q s n j) = some v ∧ RowS w F v (Z.getD j [])
  ap : ∀ (i j : Nat) v v', i < 2 * n → j < 2 * n → i ≠ j → w.cell? (loc q s n i) = some v → w.cell? (loc q s n j) = some v' → ∀ g, v.ownBlock = some g → v'.ownBlock ≠ some g
section
variable {w w' w1 : World} {p q s n : Nat} {Z : List (List (List UInt8))} {F F' : List Nat}
theorem loc_ne {i j : Nat} (hqs : q ≠ s) (h : i ≠ j) : loc q s n i ≠ loc q s n j := by
  unfold loc
  intro e
  split at e <;> split at e <;> injection e <;> omega
theorem loc_block (j : Nat) : (loc q s n j).block = q ∨ (loc q s n j).block = s := by
  unfold loc
  split
  · exact .inl rfl
  · exact .inr rfl
theorem RefF.cell_lt (h : RefF w p q s n Z F) (j : Nat) : (loc q s n j).block < w.heap.size := by
  rcases loc_block (q := q) (s := s) (n := n) j with e | e
  · rw [e]; exact h.hF q h.hq
  · rw [e]; exact h.hF s h.hs
theorem RefF.at_ (h : RefF w p q s n Z F) (j : Nat) (hj : j < 2 * n) : ∃ A c, w.cell? (loc q s n j) = some (.slice A (Z.getD j []).length c) ∧ RowS w F (.slice A (Z.getD j []).length c) (Z.getD j []) ∧ (Z.getD j []).length ≤ c ∧ c ≤ maxLen := by
  obtain ⟨v, hv, hr⟩ := h.row j hj
  obtain ⟨A, c, e, h4, h5⟩ := hr.form
  rw [e] at hv hr
  exact ⟨A, c, hv, hr, h4, h5⟩
theorem RefF.keep {G : List Nat} (h : RefF w p q s n Z F) (hu : Untouched G w w') (hd : ∀ k ∈ F, k ∉ G) : RefF w' p q s n Z F := by
  have hc : ∀ j, w'.cell? (loc q s n j) = w.cell? (loc q s n j) := fun j => World.cell?_of_block (by
    rcases loc_block (q := q) (s := s) (n := n) j with e | e
    · rw [e]; exact hu.block q (h.hF q h.hq) (hd q h.hq)
    · rw [e]; exact hu.block s (h.hF s h.hs) (hd s h.hs))
  refine ⟨fun k hk => Nat.lt_of_lt_of_le (h.hF k hk) hu.size, h.hp, h.hq, h.hs, h.bp.untouched hu (hd p h.hp), h.hl, h.hn, h.hqs, ?_, ?_, fun j hj => ?_, fun i j v v' hi hj hij h1 h2 => h.ap i j v v' hi hj hij (by rw [← hc]; exact h1) (by rw [← hc]; exact h2)⟩
  · obtain ⟨C, h1, h2⟩ := h.bq
    exact ⟨C, h1.untouched hu (hd q h.hq), h2⟩
  · obtain ⟨C, h1, h2⟩ := h.bs
    exact ⟨C, h1.untouched hu (hd s h.hs), h2⟩
  · obtain ⟨v, hv, hr⟩ := h.row j hj
    exact ⟨v, (hc j).trans hv, hr.keep (fun g e => hu.block g (hr.lt g e).1 (hd g (hr.lt g e).2)) fun k hk => hk⟩
theorem RefF.below (h : RefF w p q s n Z F) (hb : Below w.heap.size w w') : RefF w' p q s n Z F := h.keep (G := []) (Untouched.of_below hb) fun k _ hk => by cases hk
/-- A row is another one now: its block has turned, or a new one was laid. -/
theorem RefF.put (h : RefF w p q s n Z F) (j : Nat) (hj : j < 2 * n) {v : Value} (hv : w.cell? (loc q s n j) = some v) (hg : w.grownBy w1 v.ownBlock) (hF : ∀ k ∈ F, k ∈ F') (hFs : ∀ k ∈ F', k < w1.heap.size) {v' : Value} {l' : List (List UInt8)} (hr : RowS w1 F' v' l') (hb : v'.ownBlock = none ∨ v'.ownBlock = v.ownBlock ∨ ∃ g, v'.ownBlock = some g ∧ w.heap.size ≤ g) :
    (RefF (w1.setCell (loc q s n j) v') p q s n (Z.set j l') F' ∧ Untouched F w (w1.setCell (loc q s n j) v')) ∧ w1.cell? (loc q s n j) = some v ∧ w1.frozen? (loc q s n j) = false := by
  obtain ⟨v0, hv0, hr0⟩ := h.row j hj
  obtain rfl : v0 = v := Option.some.inj (hv0.symm.trans hv)
  obtain ⟨C, hC, hCs⟩ := h.bq
  obtain ⟨D, hD, hDs⟩ := h.bs
  have hkn : ∀ {b t cs}, Bk w b t cs → t ≠ 9 → some b ≠ v0.ownBlock := fun hbk ht e => by
    obtain ⟨cs', hh⟩ := hr0.ty _ e.symm
    exact hbk.ne hh ht rfl
  have bp1 : Bk w1 p 49 #[.slice (some ⟨q, 0, none⟩) n n, .slice (some ⟨s, 0, none⟩) n n] := (hg.block p h.bp.lt (hkn h.bp (by decide))).trans h.bp
  have bq1 : Bk w1 q 46 C := (hg.block q hC.lt (hkn hC (by decide))).trans hC
  have bs1 : Bk w1 s 46 D := (hg.block s hD.lt (hkn hD (by decide))).trans hD
  have hpq : p ≠ q := bp1.ne bq1 (by decide)
  have hps : p ≠ s := bp1.ne bs1 (by decide)
  have hc1 : ∀ i, w1.cell? (loc q s n i) = w.cell? (loc q s n i) := fun i => World.cell?_of_block (by
    rcases loc_block (q := q) (s := s) (n := n) i with e | e
    · rw [e]; exact bq1.trans hC.symm
    · rw [e]; exact bs1.trans hD.symm)
  have hself : (w1.setCell (loc q s n j) v').cell? (loc q s n j) = some v' := World.cell?_setCell_same w1 _ v' ((hc1 j).trans hv)
  have hoth : ∀ i, i ≠ j → (w1.setCell (loc q s n j) v').cell? (loc q s n i) = w.cell? (loc q s n i) := fun i hij => (World.cell?_setCell_other w1 _ _ v' (loc_ne h.hqs (Ne.symm hij))).trans (hc1 i)
  have hs2 : (w1.setCell (loc q s n j) v').heap.size = w1.heap.size := by simp
  have hblk : ∀ k, k ≠ q → k ≠ s → (w1.setCell (loc q s n j) v').heap[k]? = w1.heap[k]? := fun k h1 h2 => Below.heap_setCell w1 _ v' k (by
    rcases loc_block (q := q) (s := s) (n := n) j with e | e
    · rw [e]; exact h1
    · rw [e]; exact h2)
  have hrow : ∀ {v l}, RowS w1 F' v l → RowS (w1.setCell (loc q s n j) v') F' v l := fun {v l} hr => hr.keep (fun g e => by
    obtain ⟨cs, hh⟩ := hr.ty _ e
    exact hblk g (hh.ne bq1 (by decide)) (hh.ne bs1 (by decide))) fun k hk => hk
  have hu : Untouched F w (w1.setCell (loc q s n j) v') := by
    refine Untouched.trans (F' := F) (Untouched.of_grown hg fun k e => (hr0.lt k e).2) (Grew.refl _ _) ?_
    unfold loc
    split
    · exact Untouched.set (w := w1) (F := F) q j h.hq v'
    · exact Untouched.set (w := w1) (F := F) s (j - n) h.hs v'
  have hfr : w1.frozen? (loc q s n j) = false := by
    unfold loc
    split
    · exact bq1.frozen j
    · exact bs1.frozen _
  refine ⟨⟨?_, hu⟩, (hc1 j).trans hv, hfr⟩
  refine ⟨fun k hk => by rw [hs2]; exact hFs k hk, hF p h.hp, hF q h.hq, hF s h.hs, (hblk p hpq hps).trans bp1, by rw [List.length_set]; exact h.hl, h.hn, h.hqs, ?_, ?_, fun i hi => ?_, fun i k x y hi hk hik hx hy g hxg => ?_⟩
  · unfold loc
    split
    · exact ⟨_, bq1.set_ j v', by simp [hCs]⟩
    · exact ⟨C, bq1.far (p := ⟨s, j - n, none⟩) h.hqs v', hCs⟩
  · unfold loc
    split
    · exact ⟨D, bs1.far (p := ⟨q, j, none⟩) (Ne.symm h.hqs) v', hDs⟩
    · exact ⟨_, bs1.set_ (j - n) v', by simp [hDs]⟩
  · by_cases hij : i = j
    · subst hij
      refine ⟨v', hself, ?_⟩
      have : (Z.set i l').getD i [] = l' := by simp [List.getD, h.hl, hj]
      rw [this]
      exact hrow hr
    · obtain ⟨x, hx, hrx⟩ := h.row i hi
      refine ⟨x, (hoth i hij).trans hx, ?_⟩
      have : (Z.set j l').getD i [] = Z.getD i [] := by simp [List.getD, Ne.symm hij]
      rw [this]
      exact hrow (hrx.keep (fun g e => hg.block g (hrx.lt g e).1 (fun e2 => h.ap i j x v0 hi hj hij hx hv g e e2.symm)) hF)
  · intro hyg
    by_cases hij : i = j
    · subst hij
      rw [hself] at hx
      obtain rfl : v' = x := Option.some.inj hx
      rw [hoth k (Ne.symm hik)] at hy
      rcases hb with e | e | ⟨g', e, hlt⟩
      · rw [e] at hxg; cases hxg
      · exact h.ap i k v0 y hi hk hik hv hy g (by rw [← e]; exact hxg) hyg
      · rw [e] at hxg
        injection hxg with hxg
        subst hxg
        obtain ⟨y0, hy0, hry⟩ := h.row k hk
        obtain rfl : y0 = y := Option.some.inj (hy0.symm.trans hy)
        have := (hry.lt _ hyg).1
        omega
    · rw [hoth i hij] at hx
      by_cases hkj : k = j
      · subst hkj
        rw [hself] at hy
        obtain rfl : v' = y := Option.some.inj hy
        rcases hb with e | e | ⟨g', e, hlt⟩
        · rw [e] at hyg; cases hyg
        · exact h.ap i k x v0 hi hk hik hx hv g hxg (by rw [← e]; exact hyg)
        · rw [e] at hyg
          injection hyg with hyg
          subst hyg
          obtain ⟨x0, hx0, hrx⟩ := h.row i hi
          obtain rfl : x0 = x := Option.some.inj (hx0.symm.trans hx)
          have := (hrx.lt _ hxg).1
          omega
      · rw [hoth k hkj] at hy
        exact h.ap i k x y hi hk hik hx hy g hxg hyg
end
end Go.Proofs.Ytdkemjipbkanoaa
