/-
  'x = append(append([]string{}, ..), ..)' and a store, in a drawn region: what holds of its operations together.
-/
import Derived.Test.YtdkemjipbkanoaaVj
import Derived.Test.YtdkemjipbkanoaaFj
namespace Go.Proofs.Ytdkemjipbkanoaa
open Go.RowKit
set_option linter.unusedVariables false
set_option linter.unusedSimpArgs false

/-- Strings that lie one behind the other, to be read. -/
def SrcS (w : World) (A : Option Addr) (ms : List (List UInt8)) : Prop := 0 < ms.length → ∃ a0, A = some a0 ∧ ∀ j, j < ms.length → w.cell? (a0.add j) = some (.string (strOf (ms.getD j [])))
abbrev OwnS (w : World) (B : Nat) (v : Value) (ls : List (List UInt8)) : Prop := w.ownsRow B 9 1 v ls.length (strs ls)
section
variable {w w' : World} {A : Option Addr} {ms ls : List (List UInt8)} {B : Nat} {v : Value}
theorem news_of_src {a0 : Addr} (h : SrcS w (some a0) ms) : ∀ j u, (strs ms)[j]? = some u → w.cell? (a0.add j) = some u := fun j u hu => by
  have hj : j < ms.length := by rw [← strs_len]; exact (List.getElem?_eq_some_iff.1 hu).1
  obtain ⟨a, e, h2⟩ := h (by omega)
  injection e with e
  subst e
  rw [h2 j hj, ← strs_at ms j hj]
  exact hu
theorem strs_one (ms : List (List UInt8)) : ∀ x ∈ strs ms, x.oneCell' = true := fun x hx => by
  simp only [strs, List.mem_map] at hx
  obtain ⟨m, _, rfl⟩ := hx
  rfl
theorem SrcS.below {B : Nat} (h : SrcS w A ms) (hb : Below B w w') (hB : ∀ a, 0 < ms.length → A = some a → a.block < B) : SrcS w' A ms := fun h0 => by
  obtain ⟨a0, e, h1⟩ := h h0
  refine ⟨a0, e, fun j hj => ?_⟩
  have hlt := hB a0 h0 e
  have : (a0.add j).block = a0.block := by unfold Addr.add; split <;> rfl
  rw [hb.cell (p := a0.add j) (by rw [this]; exact hlt)]
  exact h1 j hj
/-- append onto an empty slice with no room. -/
theorem run_app0S (g0 : Nat) (ho : OwnS w B (.slice (some ⟨g0, 0, none⟩) 0 0) []) (hr : SrcS w A ms) (n c : Nat) (hn : ms.length = n) (hm : n ≤ 1000000) (hB : B ≤ w.heap.size) (ty : TypeId) :
    ∃ A' c' w', (Builtin.append_ #[46, 46] ty #[.slice (some ⟨g0, 0, none⟩) 0 0, .slice A n c]).run Try.prog w = .ok (.slice A' n c') w' ∧ OwnS w' B (.slice A' n c') ms ∧ Below w.heap.size w w' := by
  subst hn
  obtain ⟨i, hi, hz, hsize, hby⟩ := info_parts infoStr
  rcases Nat.eq_zero_or_pos ms.length with h0 | h0
  · have hm0 : ms = [] := List.eq_nil_of_length_eq_zero h0
    subst hm0
    refine ⟨some ⟨g0, 0, none⟩, 0, w, ?_, ho, Below.refl _ _⟩
    cases A with
    | none => simp [Builtin.append_, run_underlying Try.underlying46, sizeOf, typeInfo, hi, Builtin.lenOf, Builtin.firstCells, storeCells]
    | some ad => simp [Builtin.append_, run_underlying Try.underlying46, sizeOf, typeInfo, hi, Builtin.lenOf, Builtin.firstCells, storeCells, loadCells, loadCellsFrom]
  · obtain ⟨a0, rfl, _⟩ := id hr h0
    have hl : (strs ms).length = ms.length * i.size := by rw [hsize, strs_len]; omega
    have hr2 := run_append_grow (P := Try.prog) w 46 ty 9 i (.string ⟨#[]⟩) Try.underlying46 hi hz ⟨g0, 0, none⟩ 0 0 [] (by simp) (by intro j v hj; simp at hj) a0 ms.length c (strs ms) hl (news_of_src hr)
      (by omega) (by omega) (growslice_fits (by omega) (by rw [hby]; omega))
    simp only [Nat.zero_add] at hr2
    have hge := grownCap_ge w ms.length 0 9
    have hcm : grownCap w ms.length 0 9 ≤ maxLen := grownCap_le_maxLen w ms.length 0 9 (by unfold maxLen; omega)
    refine ⟨_, _, _, hr2, ⟨by rw [strs_len]; omega, .inr ⟨_, _, _, rfl, by simpa using hB, heap_alloc_new _ _, hge, hcm, ?_, ?_⟩⟩, ((Below.refl _ _).drew).alloc (by simp) _⟩
    · simp [strs_len, Builtin.zeroCells, Value.cells]
      omega
    · simp [strs_len]
/-- append onto an own row. -/
theorem run_appOS (ho : OwnS w B v ls) (hr : SrcS w A ms) (n c : Nat) (hn : ms.length = n) (hsz : ls.length + n ≤ 1000000) (hB : B ≤ w.heap.size) (ty : TypeId) (r : Nat) (hrr : ls.length + n = r) :
    ∃ A' c' w', (Builtin.append_ #[46, 46] ty #[v, .slice A n c]).run Try.prog w = .ok (.slice A' r c') w' ∧ OwnS w' B (.slice A' r c') (ls ++ ms) ∧ w.grownBy w' v.ownBlock := by
  subst hn
  subst hrr
  obtain ⟨i, hi, hz, hsize, hby⟩ := info_parts infoStr
  have key : ∀ v' (w' : World), w'.ownsRow B 9 1 v' (ls.length + ms.length) (strs ls ++ strs ms) → ∃ A' c', v' = .slice A' (ls.length + ms.length) c' ∧ OwnS w' B v' (ls ++ ms) := fun v' w' h => by
    have e : OwnS w' B v' (ls ++ ms) := by
      unfold OwnS
      rw [List.length_append, show strs (ls ++ ms) = strs ls ++ strs ms by simp [strs]]
      exact h
    rcases h.2 with ⟨hv, h0⟩ | ⟨g, cap, cur, hv, _⟩
    · exact ⟨none, 0, by rw [h0]; exact hv, e⟩
    · exact ⟨_, _, hv, e⟩
  cases A with
  | some a0 =>
    obtain ⟨v', w', hrun, h5, h4, _⟩ := run_append_own_at (P := Try.prog) w B 46 ty 9 i (.string ⟨#[]⟩) 1 16 Try.underlying46 hi hz hsize hby rfl (by decide) v ls.length (strs ls) ho a0 ms.length c (strs ms)
      (by rw [strs_len]; omega) (news_of_src hr) (strs_one ms) (by simp only [maxLen]; omega) (by omega) hB
    obtain ⟨A', c', rfl, h6⟩ := key v' w' h5
    exact ⟨A', c', w', hrun, h6, h4⟩
  | none =>
    have h0 : ms = [] := by
      rcases Nat.eq_zero_or_pos ms.length with h0 | h0
      · exact List.eq_nil_of_length_eq_zero h0
      · obtain ⟨g, e, _⟩ := hr h0
        cases e
    subst h0
    obtain ⟨D, d, rfl, h1⟩ : ∃ D d, v = .slice D ls.length d ∧ (D = none → d = 0 ∧ ls.length = 0) ∧ ls.length ≤ d := by
      rcases ho.2 with ⟨hv, h0⟩ | ⟨g, cap, cur, hv, _, _, h1, _⟩
      · exact ⟨none, 0, by rw [h0]; exact hv, fun _ => ⟨rfl, h0⟩, by omega⟩
      · exact ⟨_, _, hv, fun e => (by cases e), h1⟩
    refine ⟨D, d, w, ?_, by rw [List.append_nil]; exact ho, World.grownBy.refl _ _⟩
    cases D with
    | none =>
      obtain ⟨rfl, hl0⟩ := h1.1 rfl
      rw [hl0]
      simp [Builtin.append_, run_underlying Try.underlying46, sizeOf, typeInfo, hi, Builtin.lenOf, Builtin.firstCells, storeCells]
    | some b0 => simp [Builtin.append_, run_underlying Try.underlying46, sizeOf, typeInfo, hi, Builtin.lenOf, Builtin.firstCells, storeCells, h1.2]
theorem OwnS.below {B' : Nat} (h : OwnS w B v ls) (hb : Below B' w w') (hB : w.heap.size ≤ B') : OwnS w' B v ls := ownsRow_heap h fun g hg => hb.block g (Nat.lt_of_lt_of_le (World.ownsRow.lt h g hg).2 hB)
theorem OwnS.block (h : OwnS w B v ls) : ∀ g, v.ownBlock = some g → B ≤ g := fun g hg => (World.ownsRow.lt h g hg).1
end
/-- What holds of two appends and a store: d0, d1, dx, d2 the slots of the empty slice, of the first append, of a slice of one, of the second append; i0, i1, ix, i2, iF their places and the store's. -/
structure ApJ (w : World) (Fin : World → Prop) (bp : World → Prop) (i0 d0 i1 d1 ix dx i2 d2 iF : Nat) (dep1 dep2 : List Nat) (l1 l2 : List (List UInt8)) (m : List UInt8) (L : Nat → Bool) (a : Act) (W : World) : Prop where
  bel : L iF = false → Below w.heap.size w W
  pr : bp W
  e0 : L i0 = true → L i1 = false → ∃ g, a.tmps.getD d0 undef = .slice (some ⟨g, 0, none⟩) 0 0 ∧ OwnS W w.heap.size (.slice (some ⟨g, 0, none⟩) 0 0) []
  e1 : L i1 = true → L i2 = false → ∃ A c, a.tmps.getD d1 undef = .slice A l1.length c ∧ OwnS W w.heap.size (.slice A l1.length c) l1
  ex : L ix = true → L i2 = false → ∃ g, a.tmps.getD dx undef = .slice (some ⟨g, 0, none⟩) 1 1 ∧ w.heap.size ≤ g ∧ g < W.heap.size ∧ W.cell? ⟨g, 0, none⟩ = some (.string (strOf m))
  e2 : L i2 = true → L iF = false → ∃ A c, a.tmps.getD d2 undef = .slice A l2.length c ∧ OwnS W w.heap.size (.slice A l2.length c) l2
  o1 : L i1 = true → L i0 = true ∧ ∀ j ∈ dep1, L j = true
  o2 : L i2 = true → L i1 = true ∧ ∀ j ∈ dep2, L j = true
  oF : L iF = true → L i2 = true
  fin : L iF = true → Fin W
section
variable {w W W' : World} {Fin bp : World → Prop} {i0 d0 i1 d1 ix dx i2 d2 iF : Nat} {dep1 dep2 : List Nat} {l1 l2 : List (List UInt8)} {m : List UInt8} {L : Nat → Bool} {a : Act}
theorem or_true_of {L : Nat → Bool} {i j : Nat} (h : L j = true) : (decide (j = i) || L j) = true := by simp [h]
/-- An operation that leaves the world as it is. -/
theorem ApJ.same (h : ApJ w Fin bp i0 d0 i1 d1 ix dx i2 d2 iF dep1 dep2 l1 l2 m L a W) (i d : Nat) (v : Value) (hi : i0 ≠ i ∧ i1 ≠ i ∧ ix ≠ i ∧ i2 ≠ i ∧ iF ≠ i) (hd : some d ≠ some d0 ∧ some d ≠ some d1 ∧ some d ≠ some dx ∧ some d ≠ some d2) :
    ApJ w Fin bp i0 d0 i1 d1 ix dx i2 d2 iF dep1 dep2 l1 l2 m (fun j => decide (j = i) || L j) (a.put (some d) v) W := by
  have e0 := orf_ne (L := L) hi.1
  have e1 := orf_ne (L := L) hi.2.1
  have ex := orf_ne (L := L) hi.2.2.1
  have e2 := orf_ne (L := L) hi.2.2.2.1
  have eF := orf_ne (L := L) hi.2.2.2.2
  have s0 := put_getD_ne a (some d) v d0 hd.1
  have s1 := put_getD_ne a (some d) v d1 hd.2.1
  have sx := put_getD_ne a (some d) v dx hd.2.2.1
  have s2 := put_getD_ne a (some d) v d2 hd.2.2.2
  obtain ⟨a1, a2, a3, a4, a5, a6, a7, a8, a9, a10⟩ := h
  refine ⟨?_, ?_, ?_, ?_, ?_, ?_, ?_, ?_, ?_, ?_⟩ <;> try simp only [e0, e1, ex, e2, eF, s0, s1, sx, s2]
  · exact a1
  · exact a2
  · exact a3
  · exact a4
  · exact a5
  · exact a6
  · exact fun h => ⟨(a7 h).1, fun j hj => or_true_of ((a7 h).2 j hj)⟩
  · exact fun h => ⟨(a8 h).1, fun j hj => or_true_of ((a8 h).2 j hj)⟩
  · exact a9
  · exact a10
theorem ApJ.openF (h : ApJ w Fin bp i0 d0 i1 d1 ix dx i2 d2 iF dep1 dep2 l1 l2 m L a W) (h2 : L i2 = false) : L iF = false := by
  cases hF : L iF with
  | false => rfl
  | true => rw [h.oF hF] at h2; cases h2
theorem ApJ.open2 (h : ApJ w Fin bp i0 d0 i1 d1 ix dx i2 d2 iF dep1 dep2 l1 l2 m L a W) (h1 : L i1 = false) : L i2 = false := by
  cases hF : L i2 with
  | false => rfl
  | true => rw [(h.o2 hF).1] at h1; cases h1
theorem ApJ.open2d (h : ApJ w Fin bp i0 d0 i1 d1 ix dx i2 d2 iF dep1 dep2 l1 l2 m L a W) (j : Nat) (hj : j ∈ dep2) (h1 : L j = false) : L i2 = false := by
  cases hF : L i2 with
  | false => rfl
  | true => rw [(h.o2 hF).2 j hj] at h1; cases h1
theorem ApJ.open1d (h : ApJ w Fin bp i0 d0 i1 d1 ix dx i2 d2 iF dep1 dep2 l1 l2 m L a W) (j : Nat) (hj : j ∈ dep1) (h1 : L j = false) : L i1 = false := by
  cases hF : L i1 with
  | false => rfl
  | true => rw [(h.o1 hF).2 j hj] at h1; cases h1
theorem ApJ.open10 (h : ApJ w Fin bp i0 d0 i1 d1 ix dx i2 d2 iF dep1 dep2 l1 l2 m L a W) (h1 : L i0 = false) : L i1 = false := by
  cases hF : L i1 with
  | false => rfl
  | true => rw [(h.o1 hF).1] at h1; cases h1
/-- The empty slice. -/
theorem ApJ.nil (h : ApJ w Fin bp i0 d0 i1 d1 ix dx i2 d2 iF dep1 dep2 l1 l2 m L a W) (hL : L i0 = false) (hsz : d0 < a.tmps.size) (hi : i1 ≠ i0 ∧ ix ≠ i0 ∧ i2 ≠ i0 ∧ iF ≠ i0) (hd : some d0 ≠ some d1 ∧ some d0 ≠ some dx ∧ some d0 ≠ some d2) (hbp : ∀ W', Below W.heap.size W W' → bp W → bp W') :
    ApJ w Fin bp i0 d0 i1 d1 ix dx i2 d2 iF dep1 dep2 l1 l2 m (fun j => decide (j = i0) || L j) (a.put (some d0) (.slice (some ⟨W.heap.size, 0, none⟩) 0 0)) (W.alloc (.cells #[] 9)) := by
  have h1 := h.open10 hL
  have h2 := h.open2 h1
  have hF := h.openF h2
  have hb := h.bel hF
  have hba : Below W.heap.size W (W.alloc (.cells #[] 9)) := (Below.refl _ _).alloc (Nat.le_refl _) _
  have e0 : (decide (i0 = i0) || L i0) = true := by simp
  have e1 := (orf_ne (L := L) hi.1).trans h1
  have ex := orf_ne (L := L) hi.2.1
  have e2 := (orf_ne (L := L) hi.2.2.1).trans h2
  have eF := (orf_ne (L := L) hi.2.2.2).trans hF
  have s0 := put_getD_eq a (.slice (some ⟨W.heap.size, 0, none⟩) 0 0) d0 hsz
  have s1 := put_getD_ne a (some d0) (.slice (some ⟨W.heap.size, 0, none⟩) 0 0) d1 hd.1
  have sx := put_getD_ne a (some d0) (.slice (some ⟨W.heap.size, 0, none⟩) 0 0) dx hd.2.1
  have s2 := put_getD_ne a (some d0) (.slice (some ⟨W.heap.size, 0, none⟩) 0 0) d2 hd.2.2
  obtain ⟨a1, a2, a3, a4, a5, a6, a7, a8, a9, a10⟩ := h
  refine ⟨?_, hbp _ hba a2, ?_, ?_, ?_, ?_, ?_, ?_, ?_, ?_⟩ <;> try simp only [e0, e1, ex, e2, eF, s0, s1, sx, s2]
  · exact fun _ => hb.trans (hba.mono hb.size)
  · exact fun _ _ => ⟨_, rfl, by simp [strs], .inr ⟨_, _, _, rfl, hb.size, heap_alloc_new _ _, Nat.le_refl _, Nat.zero_le _, by simp, by simp [strs]⟩⟩
  · exact fun h => (by cases h)
  · intro hx _
    obtain ⟨g, x1, x2, x3, x4⟩ := a5 hx h2
    exact ⟨g, x1, x2, Nat.lt_of_lt_of_le x3 hba.size, (hba.cell (p := ⟨g, 0, none⟩) x3).trans x4⟩
  · exact fun h => (by cases h)
  · exact fun h => (by cases h)
  · exact fun h => (by cases h)
  · exact fun h => (by cases h)
  · exact fun h => (by cases h)
/-- The slice of one. -/
theorem ApJ.one (h : ApJ w Fin bp i0 d0 i1 d1 ix dx i2 d2 iF dep1 dep2 l1 l2 m L a W) (hL : L ix = false) (hx2 : ix ∈ dep2) (hsz : dx < a.tmps.size) (hi : i0 ≠ ix ∧ i1 ≠ ix ∧ i2 ≠ ix ∧ iF ≠ ix) (hd : some dx ≠ some d0 ∧ some dx ≠ some d1 ∧ some dx ≠ some d2) (hbp : ∀ W', Below W.heap.size W W' → bp W → bp W') :
    ApJ w Fin bp i0 d0 i1 d1 ix dx i2 d2 iF dep1 dep2 l1 l2 m (fun j => decide (j = ix) || L j) (a.put (some dx) (.slice (some ⟨W.heap.size, 0, none⟩) 1 1)) (W.alloc (.cells #[.string (strOf m)] 9)) := by
  have h2 := h.open2d ix hx2 hL
  have hF := h.openF h2
  have hb := h.bel hF
  have hba : Below W.heap.size W (W.alloc (.cells #[.string (strOf m)] 9)) := (Below.refl _ _).alloc (Nat.le_refl _) _
  have ex : (decide (ix = ix) || L ix) = true := by simp
  have e0 := orf_ne (L := L) hi.1
  have e1 := orf_ne (L := L) hi.2.1
  have e2 := (orf_ne (L := L) hi.2.2.1).trans h2
  have eF := (orf_ne (L := L) hi.2.2.2).trans hF
  have sx := put_getD_eq a (.slice (some ⟨W.heap.size, 0, none⟩) 1 1) dx hsz
  have s0 := put_getD_ne a (some dx) (.slice (some ⟨W.heap.size, 0, none⟩) 1 1) d0 hd.1
  have s1 := put_getD_ne a (some dx) (.slice (some ⟨W.heap.size, 0, none⟩) 1 1) d1 hd.2.1
  have s2 := put_getD_ne a (some dx) (.slice (some ⟨W.heap.size, 0, none⟩) 1 1) d2 hd.2.2
  obtain ⟨a1, a2, a3, a4, a5, a6, a7, a8, a9, a10⟩ := h
  refine ⟨?_, hbp _ hba a2, ?_, ?_, ?_, ?_, ?_, ?_, ?_, ?_⟩ <;> try simp only [e0, e1, ex, e2, eF, s0, s1, sx, s2]
  · exact fun _ => hb.trans (hba.mono hb.size)
  · intro h0 h1
    obtain ⟨g, x1, x2⟩ := a3 h0 h1
    exact ⟨g, x1, OwnS.below x2 hba (Nat.le_refl _)⟩
  · intro h1 _
    obtain ⟨A, c, x1, x2⟩ := a4 h1 h2
    exact ⟨A, c, x1, OwnS.below x2 hba (Nat.le_refl _)⟩
  · exact fun _ _ => ⟨_, rfl, hb.size, by simp, World.cell?_alloc_mark _ _ _ _ _⟩
  · exact fun h => (by cases h)
  · exact fun h => ⟨(a7 h).1, fun j hj => or_true_of ((a7 h).2 j hj)⟩
  · exact fun h => (by cases h)
  · exact fun h => (by cases h)
  · exact fun h => (by cases h)
/-- The first append. -/
theorem ApJ.app1 (h : ApJ w Fin bp i0 d0 i1 d1 ix dx i2 d2 iF dep1 dep2 l1 l2 m L a W) (hL : L i1 = false) (h0 : L i0 = true) (hdep : ∀ j ∈ dep1, L j = true) (hsz : d1 < a.tmps.size) (hi : i0 ≠ i1 ∧ ix ≠ i1 ∧ i2 ≠ i1 ∧ iF ≠ i1) (hd : some d1 ≠ some d0 ∧ some d1 ≠ some dx ∧ some d1 ≠ some d2) (hbp : ∀ W', Below W.heap.size W W' → bp W → bp W')
    (A : Option Addr) (c : Nat) (ho : OwnS W' w.heap.size (.slice A l1.length c) l1) (hba : Below W.heap.size W W') :
    ApJ w Fin bp i0 d0 i1 d1 ix dx i2 d2 iF dep1 dep2 l1 l2 m (fun j => decide (j = i1) || L j) (a.put (some d1) (.slice A l1.length c)) W' := by
  have h2 := h.open2 hL
  have hF := h.openF h2
  have hb := h.bel hF
  have e1 : (decide (i1 = i1) || L i1) = true := by simp
  have e0 := orf_ne (L := L) hi.1
  have ex := orf_ne (L := L) hi.2.1
  have e2 := (orf_ne (L := L) hi.2.2.1).trans h2
  have eF := (orf_ne (L := L) hi.2.2.2).trans hF
  have s1 := put_getD_eq a (.slice A l1.length c) d1 hsz
  have s0 := put_getD_ne a (some d1) (.slice A l1.length c) d0 hd.1
  have sx := put_getD_ne a (some d1) (.slice A l1.length c) dx hd.2.1
  have s2 := put_getD_ne a (some d1) (.slice A l1.length c) d2 hd.2.2
  obtain ⟨a1, a2, a3, a4, a5, a6, a7, a8, a9, a10⟩ := h
  refine ⟨?_, hbp _ hba a2, ?_, ?_, ?_, ?_, ?_, ?_, ?_, ?_⟩ <;> try simp only [e0, e1, ex, e2, eF, s0, s1, sx, s2]
  · exact fun _ => hb.trans (hba.mono hb.size)
  · exact fun _ h => (by cases h)
  · exact fun _ _ => ⟨A, c, rfl, ho⟩
  · intro hx _
    obtain ⟨g, x1, x2, x3, x4⟩ := a5 hx h2
    exact ⟨g, x1, x2, Nat.lt_of_lt_of_le x3 hba.size, (hba.cell (p := ⟨g, 0, none⟩) x3).trans x4⟩
  · exact fun h => (by cases h)
  · exact fun _ => ⟨h0, fun j hj => or_true_of (hdep j hj)⟩
  · exact fun h => (by cases h)
  · exact fun h => (by cases h)
  · exact fun h => (by cases h)
/-- The second append. -/
theorem ApJ.app2 (h : ApJ w Fin bp i0 d0 i1 d1 ix dx i2 d2 iF dep1 dep2 l1 l2 m L a W) (hL : L i2 = false) (h1 : L i1 = true) (hdep : ∀ j ∈ dep2, L j = true) (hsz : d2 < a.tmps.size) (hi : i0 ≠ i2 ∧ i1 ≠ i2 ∧ iF ≠ i2) (hd : some d2 ≠ some d0 ∧ some d2 ≠ some d1 ∧ some d2 ≠ some dx) (hbp : ∀ W', Below w.heap.size W W' → bp W → bp W')
    (A : Option Addr) (c : Nat) (v1 : Value) (ho1 : OwnS W w.heap.size v1 l1) (ho : OwnS W' w.heap.size (.slice A l2.length c) l2) (hg : W.grownBy W' v1.ownBlock) :
    ApJ w Fin bp i0 d0 i1 d1 ix dx i2 d2 iF dep1 dep2 l1 l2 m (fun j => decide (j = i2) || L j) (a.put (some d2) (.slice A l2.length c)) W' := by
  have hF := h.openF hL
  have hb := h.bel hF
  have hba : Below w.heap.size W W' := (Below.refl _ _).grown hg hb.size (OwnS.block ho1)
  have e2 : (decide (i2 = i2) || L i2) = true := by simp
  have e0 := orf_ne (L := L) hi.1
  have e1 := (orf_ne (L := L) hi.2.1).trans h1
  have eF := (orf_ne (L := L) hi.2.2).trans hF
  have s2 := put_getD_eq a (.slice A l2.length c) d2 hsz
  have hh1 := h.o1 h1
  obtain ⟨a1, a2, a3, a4, a5, a6, a7, a8, a9, a10⟩ := h
  refine ⟨?_, hbp _ hba a2, ?_, ?_, ?_, ?_, ?_, ?_, ?_, ?_⟩ <;> try simp only [e0, e1, e2, eF, s2]
  · exact fun _ => hb.trans hba
  · exact fun _ h => (by cases h)
  · exact fun _ h => (by cases h)
  · exact fun _ h => (by cases h)
  · exact fun _ _ => ⟨A, c, rfl, ho⟩
  · exact fun _ => ⟨hh1.1, fun j hj => or_true_of (hh1.2 j hj)⟩
  · exact fun _ => ⟨by first | trivial | simp, fun j hj => or_true_of (hdep j hj)⟩
  · exact fun _ => (by simp)
  · exact fun h => (by cases h)
/-- The store. -/
theorem ApJ.store (h : ApJ w Fin bp i0 d0 i1 d1 ix dx i2 d2 iF dep1 dep2 l1 l2 m L a W) (h2 : L i2 = true) (hi : i0 ≠ iF ∧ i1 ≠ iF ∧ i2 ≠ iF) (hbp : bp W') (hf : Fin W') :
    ApJ w Fin bp i0 d0 i1 d1 ix dx i2 d2 iF dep1 dep2 l1 l2 m (fun j => decide (j = iF) || L j) (a.put none undef) W' := by
  have hh2 := h.o2 h2
  have hh1 := h.o1 hh2.1
  have eF : (decide (iF = iF) || L iF) = true := by simp
  have e0 := orf_ne (L := L) hi.1
  have e1 := (orf_ne (L := L) hi.2.1).trans hh2.1
  have e2 := (orf_ne (L := L) hi.2.2).trans h2
  obtain ⟨a1, a2, a3, a4, a5, a6, a7, a8, a9, a10⟩ := h
  refine ⟨?_, hbp, ?_, ?_, ?_, ?_, ?_, ?_, ?_, ?_⟩ <;> try simp only [e0, e1, e2, eF]
  · exact fun h => (by cases h)
  · exact fun _ h => (by cases h)
  · exact fun _ h => (by cases h)
  · exact fun _ h => (by cases h)
  · exact fun _ h => (by cases h)
  · exact fun _ => ⟨hh1.1, fun j hj => or_true_of (hh1.2 j hj)⟩
  · exact fun _ => ⟨by first | trivial | simp, fun j hj => or_true_of (hh2.2 j hj)⟩
  · exact fun _ => (by first | trivial | simp)
  · exact fun _ => hf
theorem ApJ.start (hb : Below w.heap.size w W) (hbp : bp W) : ApJ w Fin bp i0 d0 i1 d1 ix dx i2 d2 iF dep1 dep2 l1 l2 m (fun _ => false) a W :=
  ⟨fun _ => hb, hbp, fun h => (by cases h), fun h => (by cases h), fun h => (by cases h), fun h => (by cases h), fun h => (by cases h), fun h => (by cases h), fun h => (by cases h), fun h => (by cases h)⟩
end
end Go.Proofs.Ytdkemjipbkanoaa
