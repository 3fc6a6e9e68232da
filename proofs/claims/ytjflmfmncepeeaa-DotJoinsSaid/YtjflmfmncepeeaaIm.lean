/-
  An own slice of dots; slices.Grow (of nothing), slices.Concat of dots.
-/
import Derived.Test.YtjflmfmncepeeaaIj
import Derived.Lib.AppendZerosOnto
import Derived.Lib.SliceRun
import Derived.WalkSpells
import Derived.WalkLawsBesides
import Derived.BigCall
import Derived.OwnWalk
namespace Go.Proofs.Ytjflmfmncepeeaa
open Go.RowKit
set_option linter.unusedVariables false
set_option linter.unusedSimpArgs false

def OwnD (w : World) (base : Nat) (v : Value) (l : List DotV) : Prop := w.ownsRow base 27 2 v l.length (rowD l)
section
variable {w w' : World} {base : Nat} {v : Value} {l : List DotV}
theorem OwnD.form (h : OwnD w base v l) : ∃ A c, v = .slice A l.length c ∧ RdD w w.heap.size A l ∧ (∀ g, v.ownBlock = some g → base ≤ g ∧ g < w.heap.size) := by
  have hlt := World.ownsRow.lt h
  have hr := rowD_len l
  rcases h.2 with ⟨hv, h0⟩ | ⟨g, cap, cur, hv, hb, hg, hn, hm, hs, ht⟩
  · have hl : l = [] := List.eq_nil_of_length_eq_zero h0
    subst hl
    exact ⟨none, 0, hv, RdD.nil, hlt⟩
  · subst hv
    refine ⟨_, cap, rfl, fun _ => ⟨g, 0, rfl, (hlt g rfl).2, fun j hj => ?_⟩, hlt⟩
    have hc := World.ownsRow.cellAt h (j * 2) (by omega)
    have hd := World.ownsRow.cellAt h (j * 2 + 1) (by omega)
    rw [Nat.zero_add, hc, hd]
    exact rowD_at l j hj
theorem OwnD.rd {A : Option Addr} {n c : Nat} (h : OwnD w base (.slice A n c) l) : RdD w w.heap.size A l ∧ n = l.length := by
  obtain ⟨A', c', e, hr, _⟩ := h.form
  injection e with e1 e2 e3
  subst e1
  exact ⟨hr, e2⟩
theorem OwnD.cap {A : Option Addr} {n c : Nat} (h : OwnD w base (.slice A n c) l) : n ≤ c ∧ c ≤ 9223372036854775807 := by
  rcases h.2 with ⟨h0, _⟩ | ⟨g, cap, cur, hv, _, _, h1, h2, _⟩
  · injection h0 with e1 e2 e3
    omega
  · injection hv with e1 e2 e3
    unfold maxLen at h2
    omega
theorem OwnD.nil_ (w : World) (base : Nat) : OwnD w base (.slice none 0 0) [] := World.ownsRow_nil w base 27 2
theorem OwnD.lt (h : OwnD w base v l) : ∀ g, v.ownBlock = some g → base ≤ g ∧ g < w.heap.size := World.ownsRow.lt h
theorem OwnD.kept {row : Option Nat} (h : OwnD w base v l) (hg : w.grownBy w' row) (hne : v.ownBlock = none ∨ v.ownBlock ≠ row) : OwnD w' base v l := World.ownsRow.kept h hg hne
theorem OwnD.below {B : Nat} (h : OwnD w base v l) (hb : Below B w w') (hB : w.heap.size ≤ B) : OwnD w' base v l := by
  refine World.ownsRow.kept (row := none) h ⟨hb.os, hb.tape, hb.output, hb.size, fun k hk _ => hb.block k (by omega)⟩ ?_
  cases h1 : v.ownBlock with
  | none => exact .inl rfl
  | some g => exact .inr (by simp)
theorem OwnD.alloc (h : OwnD w base v l) (o : Obj) : OwnD (w.alloc o) base v l := World.ownsRow.alloc h o
theorem news_of_rdDa {B : Nat} {ad : Addr} {m : List DotV} (hr : RdD w B (some ad) m) : ∀ j u, (rowD m)[j]? = some u → w.cell? (ad.add j) = some u := by
  intro j u hu
  have hl := rowD_len m
  have hj := (List.getElem?_eq_some_iff.1 hu).1
  obtain ⟨b, off, e, _⟩ := id hr (by omega)
  injection e with e
  subst e
  exact news_of_rdD hr j u hu
/-- append onto an own slice. -/
theorem run_appDD (h : OwnD w base v l) {B : Nat} {A : Option Addr} {m : List DotV} (hr : RdD w B A m) (n c : Nat) (hn : m.length = n) (ty : TypeId)
    (hsz : l.length + n ≤ 1000000) (hbase : base ≤ w.heap.size) :
    ∃ v' w', (Builtin.append_ #[23, 23] ty #[v, .slice A n c]).run Try.prog w = .ok v' w' ∧ OwnD w' base v' (l ++ m) ∧ w.grownBy w' v.ownBlock ∧ (v'.ownBlock = v.ownBlock ∨ v'.ownBlock = some w.heap.size) := by
  subst hn
  obtain ⟨i, hi, hii⟩ := Option.map_eq_some_iff.1 infoD
  simp only [Prod.mk.injEq] at hii
  obtain ⟨hsize, hby, hz⟩ := hii
  rcases A with _ | ad
  · have hm : m = [] := by
      rcases Nat.eq_zero_or_pos m.length with h0 | h0
      · exact List.eq_nil_of_length_eq_zero h0
      · obtain ⟨_, _, e, _⟩ := hr h0
        cases e
    subst hm
    have hrun : (Builtin.append_ #[23, 23] ty #[v, .slice none 0 c]).run Try.prog w = .ok v w := by
      rcases h.2 with ⟨hv, h0⟩ | ⟨g, cap, cur, hv, _, _, hnc, _⟩
      · subst hv
        simp [Builtin.append_, run_underlying Try.underlying23, sizeOf, typeInfo, hi, Builtin.lenOf, Builtin.firstCells]
      · subst hv
        simp [Builtin.append_, run_underlying Try.underlying23, sizeOf, typeInfo, hi, Builtin.lenOf, Builtin.firstCells, hnc, storeCells]
    exact ⟨v, w, hrun, by rw [List.append_nil]; exact h, World.grownBy.refl w _, .inl rfl⟩
  · obtain ⟨v', w', hrun, h2, h3, _, h5⟩ := run_append_own_at (P := Try.prog) w base 23 ty 27 i (.agg #[.int .i64 0, .int .i64 0]) 2 16 Try.underlying23 hi hz hsize hby rfl (by decide) v l.length (rowD l) h ad m.length c (rowD m)
      (rowD_len m) (news_of_rdDa hr) (rowD_one m) (by simp only [maxLen]; omega) (by omega) hbase
    refine ⟨v', w', hrun, ?_, h3, h5⟩
    have e : rowD l ++ rowD m = rowD (l ++ m) := by simp [rowD]
    rw [e] at h2
    unfold OwnD
    rw [List.length_append]
    exact h2
/-- At the operation. -/
theorem wp_appDD {o : Oper} {a : Act} {K : Act → World → Prop} {Q : Exit → Act → World → Prop} (s x : Operand)
    (ho : o.op = .call { callee := .builtin .append, args := #[s, x], argTypes := #[23, 23] })
    (h : OwnD w base v l) (hs : a.eval s = v) {B : Nat} {A : Option Addr} {m : List DotV} (n c : Nat) (hx : a.eval x = .slice A n c) (hr : RdD w B A m) (hn : m.length = n)
    (hsz : l.length + n ≤ 1000000) (hbase : base ≤ w.heap.size)
    (hK : ∀ A' c' w', OwnD w' base (.slice A' (l.length + n) c') (l ++ m) → w.grownBy w' v.ownBlock → ((Value.slice A' (l.length + n) c').ownBlock = v.ownBlock ∨ (Value.slice A' (l.length + n) c').ownBlock = some w.heap.size) → K (a.put o.dst (.slice A' (l.length + n) c')) w') : o.wp Try.prog a w K Q := by
  obtain ⟨v', w', hrun, h2, h3, h4⟩ := run_appDD h hr n c hn o.type hsz hbase
  obtain ⟨A', c', hv, _⟩ := h2.form
  rw [List.length_append, hn] at hv
  subst hv
  unfold Oper.wp execOp
  simp only [ho, resolve, invoke, builtin, Sem.run_bind, Sem.run_pure, Result.andThen_ok, List.map_toArray, List.map_cons, List.map_nil, hs, hx, hrun]
  exact hK A' c' w' h2 h3 h4
theorem wpList_appDD {ops : Array Oper} {rest : List Oper} {o : Oper} {a : Act} {Q : Exit → Act → World → Prop} (hgd : o.guard = none) (s x : Operand)
    (ho : o.op = .call { callee := .builtin .append, args := #[s, x], argTypes := #[23, 23] })
    (h : OwnD w base v l) (hs : a.eval s = v) {B : Nat} {A : Option Addr} {m : List DotV} (n c : Nat) (hx : a.eval x = .slice A n c) (hr : RdD w B A m) (hn : m.length = n)
    (hsz : l.length + n ≤ 1000000) (hbase : base ≤ w.heap.size)
    (hK : ∀ A' c' w', OwnD w' base (.slice A' (l.length + n) c') (l ++ m) → w.grownBy w' v.ownBlock → ((Value.slice A' (l.length + n) c').ownBlock = v.ownBlock ∨ (Value.slice A' (l.length + n) c').ownBlock = some w.heap.size) → wpList Try.prog ops Q rest (a.put o.dst (.slice A' (l.length + n) c')) w') : wpList Try.prog ops Q (o :: rest) a w :=
  wpList_plain hgd fun _ hk => wp_appDD s x ho h hs n c hx hr hn hsz hbase fun A' c' w' h2 h3 h4 => hk _ _ (hK A' c' w' h2 h3 h4)
end
/-- What comes back is a slice of the call's own that reads as l; below, all is as it was. -/
def NewD (w : World) (n : Nat) (l : List DotV) (e : Ending) (w' : World) : Prop :=
  ∃ A c, e = .returned (.slice A n c) ∧ OwnD w' w.heap.size (.slice A n c) l ∧ Below w.heap.size w w'

theorem ownD_grown (w : World) (n G : Nat) (hG : n ≤ G) (hm : G ≤ maxLen) : OwnD (w.alloc (.cells (Builtin.zeroCells (Value.agg #[.int .i64 0, .int .i64 0]).cells n ++ Builtin.zeroCells (Value.agg #[.int .i64 0, .int .i64 0]).cells (G - n)) 27)) w.heap.size (.slice (some ⟨w.heap.size, 0, none⟩) 0 G) [] := by
  refine ⟨rfl, .inr ⟨w.heap.size, G, _, rfl, Nat.le_refl _, heap_alloc_new w _, Nat.zero_le _, hm, ?_, by simp [rowD]⟩⟩
  simp [Builtin.zeroCells, Value.cells]
  omega

set_option maxRecDepth 100000 in
set_option maxHeartbeats 1000000 in
theorem growD_any (n : Nat) (w : World) (hm : n ≤ 1000000) :
    Calls Try.prog 66 #[.slice none 0 0, .int .i64 (n : Int)] w (NewD w 0 []) := by
  by_cases h0 : n = 0
  · subst h0
    go_enter Try.func66, Try.ntmps66
    go_wp2
    go_ret
    exact ⟨none, 0, rfl, OwnD.nil_ _ _, Below.refl _ _⟩
  · obtain ⟨i, hi, hii⟩ := Option.map_eq_some_iff.1 infoD
    simp only [Prod.mk.injEq] at hii
    obtain ⟨hsize, hby, hz⟩ := hii
    have hrz : ∀ ty, (Builtin.append_ #[23, 3] ty #[.slice none 0 0, .int .i64 (n : Int)]).run Try.prog w = .ok (.slice (some ⟨w.heap.size, 0, none⟩) n (grownCap w n 0 27)) (w.drew.alloc (.cells (Builtin.zeroCells (Value.agg #[.int .i64 0, .int .i64 0]).cells n ++ Builtin.zeroCells (Value.agg #[.int .i64 0, .int .i64 0]).cells (grownCap w n 0 27 - n)) 27)) := fun ty => by
      have h := Lib.run_append_grow_zeros w 23 3 ty 27 i (.agg #[.int .i64 0, .int .i64 0]) .i64 .i64 Try.underlying23 Try.underlying3 hi hz none 0 0 [] (run_firstCells_none w.drew i.size 0 0 0) n (by omega) (by omega) (by omega) (by omega) (by rw [hby]; omega) (growslice_fits (by omega) (by rw [hby]; omega))
      rw [Nat.zero_add] at h
      simpa using h
    have hG1 := grownCap_ge w n 0 27
    have hG2 := grownCap_le_maxLen w n 0 27 (by unfold maxLen; omega)
    generalize grownCap w n 0 27 = G at *
    have hown := ownD_grown w.drew n G hG1 hG2
    have HO := hidd_ hown
    unfold maxLen at hG2
    clear hown hi hz hsize hby
    go_enter Try.func66, Try.ntmps66
    go_wp2_with (at_builtin; refine Lib.wpList_append_run _ rfl _ _ _ _ rfl _ _ rfl rfl _ _ (hrz _) ?_)
    all_goals (go_ret; exact ⟨_, _, rfl, HO.out, ((Below.refl _ _).drew).alloc (Nat.le_refl _) _⟩)
/-- Parts: where each lies, its capacity, its bytes. -/
def flatD (ps : List (Option Addr × Nat × List DotV)) : List DotV := (ps.map (·.2.2)).flatten
theorem flatD_snoc (ps : List (Option Addr × Nat × List DotV)) (k : Nat) (h : k < ps.length) : flatD (ps.take (k + 1)) = flatD (ps.take k) ++ (ps[k]).2.2 := by
  unfold flatD
  rw [List.take_succ_eq_append_getElem h]
  simp only [List.map_append, List.flatten_append, List.map_cons, List.map_nil, List.flatten_cons, List.flatten_nil, List.append_nil]
theorem flatD_le (ps : List (Option Addr × Nat × List DotV)) (k : Nat) : (flatD (ps.take k)).length ≤ (flatD ps).length := by
  have h : flatD ps = flatD (ps.take k) ++ flatD (ps.drop k) := by
    unfold flatD
    rw [← List.flatten_append, ← List.map_append, List.take_append_drop]
  rw [h, List.length_append]
  omega
/-- Block g holds the parts, one behind the other. -/
def CatD (w : World) (B g : Nat) (ps : List (Option Addr × Nat × List DotV)) : Prop :=
  g < B ∧ ∀ (i : Nat) (h : i < ps.length), w.cell? ⟨g, i, none⟩ = some (.slice (ps[i]).1 (ps[i]).2.2.length (ps[i]).2.1) ∧ RdD w B (ps[i]).1 (ps[i]).2.2
theorem CatD.below {w w' : World} {B g : Nat} {ps : List (Option Addr × Nat × List DotV)} (h : CatD w B g ps) (hb : Below B w w') : CatD w' B g ps :=
  ⟨h.1, fun i hi => ⟨(hb.cell (p := ⟨g, i, none⟩) h.1).trans (h.2 i hi).1, (h.2 i hi).2.below hb⟩⟩

set_option maxRecDepth 100000 in
set_option maxHeartbeats 2000000 in
theorem concatD_any (g m c n : Nat) (ps : List (Option Addr × Nat × List DotV)) (w : World) (hm : ps.length = m) (hn : (flatD ps).length = n) (hp : CatD w w.heap.size g ps) (hm1 : m ≤ 1000) (hn1 : n ≤ 1000000) :
    Calls Try.prog 46 #[.slice (some ⟨g, 0, none⟩) m c] w (NewD w n (flatD ps)) := by
  have HP := hidd_ hp
  have HN := hidd_ hn
  have HM := hidd_ hm
  clear hp hn hm
  go_enter Try.func46, Try.ntmps46
  go_wp2
  go_loop [3, 5, 11] (fun z _ i => ∃ k : Nat, k ≤ m ∧ i = .int .i64 k ∧ z = .int .i64 (((flatD (ps.take k)).length : Nat) : Int)) (fun _ _ i => m - (intOf i).toNat)
  case atStart => exact ⟨0, Nat.zero_le _, rfl, rfl⟩
  case round =>
    obtain ⟨k, hk, rfl, rfl⟩ := hrel
    by_cases hlt : k < m
    · obtain ⟨hc, hr⟩ := HP.out.2 k (by rw [HM.out]; exact hlt)
      have hs : Hid ((flatD (ps.take (k + 1))).length = (flatD (ps.take k)).length + (ps[k]'(by rw [HM.out]; exact hlt)).2.2.length) := hidd_ (by rw [flatD_snoc ps k (by rw [HM.out]; exact hlt), List.length_append])
      have hle := flatD_le ps (k + 1)
      rw [hs.out, HN.out] at hle
      clear hr
      generalize (ps[k]'(by rw [HM.out]; exact hlt)) = p at *
      obtain ⟨q, hq⟩ : ∃ q, Hid ((flatD (ps.take k)).length = q) := ⟨_, rfl⟩
      obtain ⟨r, hr⟩ : ∃ q, Hid (p.2.2.length = q) := ⟨_, rfl⟩
      rw [hq.out, hr.out] at hle hs
      rw [hq.out]
      rw [hr.out] at hc
      go_wp2
      go_round
      case rel => exact ⟨k + 1, by omega, by go_num, by rw [hs.out]; go_num⟩
      case measure => simp [intOf]; omega
    · obtain rfl : k = m := by omega
      have he : ps.take k = ps := List.take_of_length_le (by rw [HM.out]; omega)
      rw [he, HN.out]
      clear he
      have cg := growD_any n w (by omega)
      go_wp2_with (go_at_call 66; ((with_reducible refine cg.mono ?_); rintro e w1 ⟨A1, c1, rfl, ho, hb⟩))
      have HO := hidd_ ho
      have HB := hidd_ hb
      clear ho hb cg
      go_loopw [6, 8, 27] (fun v _ i wr => ∃ j : Nat, j ≤ k ∧ i = .int .i64 j ∧ OwnD wr w.heap.size v (flatD (ps.take j)) ∧ Below w.heap.size w wr) (fun _ _ i _ => k - (intOf i).toNat)
      case atStart => exact ⟨0, Nat.zero_le _, rfl, HO.out, HB.out⟩
      case round =>
        obtain ⟨j, hj, rfl, ho, hb⟩ := hrel
        obtain ⟨A2, c2, rfl, _⟩ := ho.form
        have hlt2 := ho.lt
        have HO2 := hidd_ ho
        have HB2 := hidd_ hb
        have HL2 := hidd_ hlt2
        clear ho hb hlt2 HO HB
        by_cases hlt : j < k
        · obtain ⟨hc, hr⟩ := (HP.out.below HB2.out).2 j (by rw [HM.out]; exact hlt)
          have hs : Hid (flatD (ps.take (j + 1)) = flatD (ps.take j) ++ (ps[j]'(by rw [HM.out]; exact hlt)).2.2) := hidd_ (flatD_snoc ps j (by rw [HM.out]; exact hlt))
          have hle := flatD_le ps (j + 1)
          rw [hs.out, HN.out, List.length_append] at hle
          have HR := hidd_ hr
          clear hr
          generalize (ps[j]'(by rw [HM.out]; exact hlt)) = p at *
          have H2 := HO2.out
          generalize flatD (ps.take j) = fl at *
          obtain ⟨q, hq⟩ : ∃ q, Hid (fl.length = q) := ⟨_, rfl⟩
          obtain ⟨r, hr⟩ : ∃ q, Hid (p.2.2.length = q) := ⟨_, rfl⟩
          rw [hq.out, hr.out] at hle
          rw [hq.out] at H2 HL2 ⊢
          rw [hr.out] at hc
          clear HO2
          go_wp2_with (at_builtin; refine wpList_appDD rfl (.tmp 31) (.tmp 32) rfl H2 rfl r p.2.1 rfl HR.out hr.out ?_ ?_ ?_; (rw [hq.out]; omega); (exact HB2.out.size); (intro A' c' w2 k1 k2 k3; rw [hq.out] at *))
          have HK := hidd_ k1
          have HG := hidd_ (HB2.out.grown k2 HB2.out.size (fun t ht => (HL2.out t ht).1))
          clear k1 k2 k3 H2
          go_wp2
          go_roundw
          case rel => exact ⟨j + 1, by omega, by go_num, by rw [hs.out]; exact HK.out, HG.out⟩
          case measure => simp [intOf]; omega
        · obtain rfl : j = k := by omega
          have he : ps.take j = ps := List.take_of_length_le (by rw [HM.out]; omega)
          have H2 := HO2.out
          rw [he] at H2 ⊢
          rw [HN.out] at H2 ⊢
          have H3 := hidd_ H2
          clear he HO2 H2
          go_wp2
          go_ret
          exact ⟨A2, c2, rfl, H3.out, HB2.out⟩
end Go.Proofs.Ytjflmfmncepeeaa
