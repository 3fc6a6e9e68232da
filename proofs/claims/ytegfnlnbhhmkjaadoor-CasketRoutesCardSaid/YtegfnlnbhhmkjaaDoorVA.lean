/-
  Merged: Va Vb.
-/
import Derived.Test.YtegfnlnbhhmkjaaDoorUn
import Derived.Test.YtegfnlnbhhmkjaaDoorAm
import Derived.Test.YtegfnlnbhhmkjaaDoorCc
import Derived.LaidEqlPtr
namespace Go.Proofs.YtegfnlnbhhmkjaaDoor
set_option maxRecDepth 100000
open Go.RowKit
set_option linter.unusedVariables false
set_option linter.unusedSimpArgs false

theorem infoSlv : (Tryd.prog.info? 39).map (fun i => (i.zero, i.size, i.bytes)) = some (some (.slice none 0 0), 1, 24) := by kernel_rfl
/-- F, and all blocks that came sincev. -/
def sincev (F : List Nat) (w w' : World) : List Nat := F ++ (List.range w'.heap.size).filter (fun k => decide (w.heap.size ≤ k))
theorem mem_since {F : List Nat} {w w' : World} {k : Nat} : k ∈ sincev F w w' ↔ k ∈ F ∨ (w.heap.size ≤ k ∧ k < w'.heap.size) := by
  unfold sincev
  simp [and_comm]
theorem grew_since (F : List Nat) (w w' : World) : Grew w F (sincev F w w') := fun k hk => by
  rcases mem_since.1 hk with h | h
  · exact .inl h
  · exact .inr h.1
theorem since_lt {F : List Nat} {w w' : World} (h : ∀ k ∈ F, k < w.heap.size) (hs : w.heap.size ≤ w'.heap.size) : ∀ k ∈ sincev F w w', k < w'.heap.size := fun k hk => by
  rcases mem_since.1 hk with h1 | h1
  · exact Nat.lt_of_lt_of_le (h k h1) hs
  · exact h1.2
/-- A message: its bytes lie in one of the blocks F, a block of bytes. -/
def BitF (w : World) (F : List Nat) (u : Value) (m : List UInt8) : Prop :=
  ∃ A c, u = .slice A m.length c ∧ m.length ≤ c ∧ c ≤ maxLen ∧ (0 < m.length → ∃ b off cs fz, A = some ⟨b, off, none⟩ ∧ b ∈ F ∧ w.heap[b]? = some (.cells cs 5 fz) ∧ ∀ j, j < m.length → w.cell? ⟨b, off + j, none⟩ = some (.int .u8 ((m.getD j 0).toNat : Int)))
/-- Blocks of bytes among F are as they were. -/
def Keeps8 (F : List Nat) (w w' : World) : Prop := w.heap.size ≤ w'.heap.size ∧ ∀ b, b ∈ F → ∀ cs fz, w.heap[b]? = some (.cells cs 5 fz) → w'.heap[b]? = w.heap[b]?
/-- A row of messages. -/
def RowF (w : World) (F : List Nat) (v : Value) (ls : List (List UInt8)) : Prop :=
  ∃ vs, w.ownsRow 0 39 1 v ls.length vs ∧ (∀ g, v.ownBlock = some g → g ∈ F) ∧ ∀ j, j < ls.length → ∃ u, vs[j]? = some u ∧ BitF w F u (ls.getD j [])
theorem ownsRow_heap {w w' : World} {base size n : Nat} {e : TypeId} {v : Value} {xs : List Value} (h : w.ownsRow base e size v n xs) (hg : ∀ g, v.ownBlock = some g → w'.heap[g]? = w.heap[g]?) : w'.ownsRow base e size v n xs := by
  refine ⟨h.1, ?_⟩
  rcases h.2 with h2 | ⟨g, cap, cur, hv, hb, hh, rest⟩
  · exact .inl h2
  · exact .inr ⟨g, cap, cur, hv, hb, (hg g (by rw [hv]; rfl)).trans hh, rest⟩
theorem Bk.ne {w : World} {a b : Nat} {t t' : TypeId} {cs cs' : Array Value} (h : Bk w a t cs) (h' : Bk w b t' cs') (ht : t ≠ t') : a ≠ b := by
  rintro rfl
  have e := Option.some.inj ((show w.heap[a]? = some (.cells cs t (0, 0)) from h).symm.trans (show w.heap[a]? = some (.cells cs' t' (0, 0)) from h'))
  injection e with _ e2 _
  exact ht e2
section
variable {w w' w1 : World} {F F' : List Nat} {u v v' : Value} {m : List UInt8} {ls : List (List UInt8)}
theorem lt_of_heapv {b : Nat} {o : Obj} (h : w.heap[b]? = some o) : b < w.heap.size := (Array.getElem?_eq_some_iff.1 h).1
theorem BitF.keep (h : BitF w F u m) (hk : Keeps8 F w w') (hF : ∀ k ∈ F, k ∈ F') : BitF w' F' u m := by
  obtain ⟨A, c, h1, h2, h3, h4⟩ := h
  refine ⟨A, c, h1, h2, h3, fun h0 => ?_⟩
  obtain ⟨b, off, cs, fz, e, hb, hh, hc⟩ := h4 h0
  have hkb := hk.2 b hb cs fz hh
  exact ⟨b, off, cs, fz, e, hF b hb, hkb.trans hh, fun j hj => (World.cell?_of_block hkb).trans (hc j hj)⟩
theorem BitF.rd2 {A : Option Addr} {n c : Nat} (h : BitF w F (.slice A n c) m) : m.length = n ∧ Rd w w.heap.size A m := by
  obtain ⟨A', c', h1, h2, h3, h4⟩ := h
  injection h1 with e1 e2 e3
  subst e1 e2
  refine ⟨rfl, fun h0 => ?_⟩
  obtain ⟨b, off, cs, fz, e, hb, hh, hc⟩ := h4 h0
  exact ⟨b, off, e, lt_of_heapv hh, hc⟩
theorem BitF.rd (h : BitF w F u m) : ∃ A c, u = .slice A m.length c ∧ m.length ≤ c ∧ c ≤ maxLen ∧ Rd w w.heap.size A m := by
  obtain ⟨A, c, h1, h2, h3, h4⟩ := h
  refine ⟨A, c, h1, h2, h3, fun h0 => ?_⟩
  obtain ⟨b, off, cs, fz, e, hb, hh, hc⟩ := h4 h0
  exact ⟨b, off, e, lt_of_heapv hh, hc⟩
/-- Bytes of the call's own. -/
theorem Own8.bitF {base n c : Nat} {A : Option Addr} (h : Own8 w base (.slice A n c) m) (hF : ∀ k, base ≤ k → k < w.heap.size → k ∈ F) : BitF w F (.slice A n c) m := by
  have hrd := h.rd
  obtain ⟨hr, rfl⟩ := hrd
  have hlt := World.ownsRow.lt h
  rcases h.2 with ⟨hv, h0⟩ | ⟨g, cap, cur, hv, hb, hg, hn, hm, hs, ht⟩
  · injection hv with e1 e2 e3
    subst e1 e3
    exact ⟨none, 0, rfl, by omega, Nat.zero_le _, fun hn => absurd hn (by omega)⟩
  · injection hv with e1 e2 e3
    subst e1 e3
    refine ⟨_, _, rfl, hn, hm, fun h0 => ?_⟩
    obtain ⟨b, off, e, hb2, hc⟩ := hr h0
    injection e with e
    injection e with e4 e5
    subst e4 e5
    exact ⟨g, 0, cur, (0, 0), rfl, hF g hb hb2, hg, hc⟩
theorem RowF.nil_ (w : World) (F : List Nat) : RowF w F (.slice none 0 0) [] := ⟨[], World.ownsRow_nil w 0 39 1, fun g hg => (by cases hg), fun j hj => absurd hj (by simp)⟩
theorem RowF.lt (h : RowF w F v ls) : ∀ g, v.ownBlock = some g → g < w.heap.size ∧ g ∈ F := fun g hg => by
  obtain ⟨vs, h1, h2, _⟩ := h
  exact ⟨(World.ownsRow.lt h1 g hg).2, h2 g hg⟩
/-- The block of a row of messages bears the type of slices of bytes. -/
theorem RowF.ty (h : RowF w F v ls) : ∀ g, v.ownBlock = some g → ∃ cs, w.heap[g]? = some (.cells cs 39 (0, 0)) := fun g hg => by
  obtain ⟨vs, h1, _, _⟩ := h
  rcases h1.2 with ⟨hv, _⟩ | ⟨g', cap, cur, hv, _, hh, _⟩
  · subst hv; cases hg
  · subst hv
    injection hg with hg
    simp only at hg
    subst hg
    exact ⟨cur, hh⟩
theorem RowF.form (h : RowF w F v ls) : ∃ A c, v = .slice A ls.length c ∧ ls.length ≤ c ∧ c ≤ maxLen := by
  obtain ⟨vs, h1, _, _⟩ := h
  rcases h1.2 with ⟨hv, h0⟩ | ⟨g, cap, cur, hv, _, _, hn, hm, _⟩
  · exact ⟨none, 0, by rw [h0]; exact hv, by omega, Nat.zero_le _⟩
  · exact ⟨_, cap, hv, hn, hm⟩
theorem RowF.cell {A : Option Addr} {n c : Nat} (h : RowF w F (.slice A n c) ls) (j : Nat) (hj : j < ls.length) : ∃ g u, A = some ⟨g, 0, none⟩ ∧ w.cell? ⟨g, j, none⟩ = some u ∧ BitF w F u (ls.getD j []) ∧ g < w.heap.size := by
  have hlt := h.lt
  obtain ⟨vs, h1, _, h3⟩ := h
  obtain ⟨u, hu, hb⟩ := h3 j hj
  rcases h1.2 with ⟨hv, h0⟩ | ⟨g, cap, cur, hv, _⟩
  · omega
  · injection hv with e1 e2 e3
    subst e1 e2 e3
    exact ⟨g, u, rfl, (World.ownsRow.cellAt h1 j (by omega)).trans hu, hb, (hlt g rfl).1⟩
theorem RowF.keep (h : RowF w F v ls) (hg : ∀ g, v.ownBlock = some g → w'.heap[g]? = w.heap[g]?) (hk : Keeps8 F w w') (hF : ∀ k ∈ F, k ∈ F') : RowF w' F' v ls := by
  obtain ⟨vs, h1, h2, h3⟩ := h
  refine ⟨vs, ownsRow_heap h1 hg, fun g e => hF g (h2 g e), fun j hj => ?_⟩
  obtain ⟨u, h4, h5⟩ := h3 j hj
  exact ⟨u, h4, h5.keep hk hF⟩
/-- Only a block of another type has turned. -/
theorem keeps_of {row : Option Nat} (hg : w.grownBy w' row) (hF : ∀ k ∈ F, k < w.heap.size) (hr : ∀ g, row = some g → ∃ cs fz, ∃ t, t ≠ 5 ∧ w.heap[g]? = some (.cells cs t fz)) : Keeps8 F w w' :=
  ⟨hg.size, fun b hb cs fz hh => hg.block b (hF b hb) fun e => by
    obtain ⟨cs', fz', t, ht, hh'⟩ := hr b e.symm
    rw [hh] at hh'
    injection hh' with hh'
    injection hh' with _ e2 _
    exact ht e2.symm⟩
theorem Keeps8.of_untouched {G : List Nat} (hu : Untouched G w w') (hF : ∀ k ∈ F, k < w.heap.size) (hd : ∀ k ∈ F, k ∉ G) : Keeps8 F w w' := ⟨hu.size, fun b hb _ _ _ => hu.block b (hF b hb) (hd b hb)⟩
theorem Keeps8.trans (h : Keeps8 F w w') (h2 : Keeps8 F w' w1) : Keeps8 F w w1 :=
  ⟨Nat.le_trans h.1 h2.1, fun b hb cs fz hh => (h2.2 b hb cs fz ((h.2 b hb cs fz hh).trans hh)).trans (h.2 b hb cs fz hh)⟩
/-- append of one message. -/
theorem run_appF (h : RowF w F v ls) (hFs : ∀ k ∈ F, k < w.heap.size) (g0 : Nat) (u : Value) (hu : u.oneCell' = true) (hc : w.cell? ⟨g0, 0, none⟩ = some u) (hm : BitF w F u m) (ty : TypeId) (c : Nat) (hsz : ls.length + 1 ≤ 1000000) :
    ∃ v' w', (Builtin.append_ #[89, 89] ty #[v, .slice (some ⟨g0, 0, none⟩) 1 c]).run Tryd.prog w = .ok v' w' ∧ RowF w' (sincev F w w') v' (ls ++ [m]) ∧ w.grownBy w' v.ownBlock ∧ Keeps8 F w w' ∧ (v'.ownBlock = v.ownBlock ∨ v'.ownBlock = some w.heap.size) := by
  have hty := h.ty
  obtain ⟨vs, h1, h2, h3⟩ := h
  obtain ⟨i, hi, hz, hsize, hby⟩ := info_parts infoSlv
  obtain ⟨v', w', hrun, h5, h4, _, h6⟩ := run_append_own_at (P := Tryd.prog) w 0 89 ty 39 i (.slice none 0 0) 1 24 Tryd.underlying89 hi hz hsize hby rfl (by decide) v ls.length vs h1 ⟨g0, 0, none⟩ 1 c [u]
      rfl (fun j x hx => by
        match j, hx with
        | 0, hx => obtain rfl : u = x := by simpa using hx
                   exact hc) (fun x hx => by obtain rfl : x = u := by simpa using hx
                                             exact hu) (by simp only [maxLen]; omega) (by omega) (Nat.zero_le _)
  have hk : Keeps8 F w w' := keeps_of h4 hFs fun g e => by
    obtain ⟨cs, hh⟩ := hty g e
    exact ⟨cs, (0, 0), 39, by decide, hh⟩
  have hvl : vs.length = ls.length := by have := h1.1; omega
  have hs : ∀ k ∈ F, k ∈ sincev F w w' := fun k hk => mem_since.2 (.inl hk)
  refine ⟨v', w', hrun, ⟨vs ++ [u], by rw [List.length_append]; exact h5, fun g e => ?_, fun j hj => ?_⟩, h4, hk, h6⟩
  · rcases h6 with e6 | e6
    · exact hs g (h2 g (by rw [← e6]; exact e))
    · rw [e6] at e
      injection e with e
      subst e
      have := (World.ownsRow.lt h5 _ e6).2
      exact mem_since.2 (.inr ⟨Nat.le_refl _, this⟩)
  · rcases Nat.lt_or_ge j ls.length with h7 | h7
    · obtain ⟨x, h8, h9⟩ := h3 j h7
      refine ⟨x, by rw [List.getElem?_append_left (by omega)]; exact h8, ?_⟩
      have : (ls ++ [m]).getD j [] = ls.getD j [] := by simp [List.getD, List.getElem?_append_left h7]
      rw [this]
      exact h9.keep hk hs
    · simp at hj
      obtain rfl : j = ls.length := by omega
      refine ⟨u, by rw [← hvl]; simp, ?_⟩
      have : (ls ++ [m]).getD ls.length [] = m := by simp [List.getD]
      rw [this]
      exact hm.keep hk hs
theorem wp_appF {o : Oper} {a : Act} {K : Act → World → Prop} {Q : Exit → Act → World → Prop} (s x : Operand)
    (ho : o.op = .call { callee := .builtin .append, args := #[s, x], argTypes := #[89, 89] })
    (h : RowF w F v ls) (hFs : ∀ k ∈ F, k < w.heap.size) (hs : a.eval s = v) (g0 c : Nat) (hx : a.eval x = .slice (some ⟨g0, 0, none⟩) 1 c) (u : Value) (hu : u.oneCell' = true) (hc : w.cell? ⟨g0, 0, none⟩ = some u) (hm : BitF w F u m)
    (nl : Nat) (hnl : ls.length = nl) (hsz : nl + 1 ≤ 1000000)
    (hK : ∀ A' c' w', RowF w' (sincev F w w') (.slice A' (nl + 1) c') (ls ++ [m]) → w.grownBy w' v.ownBlock → Keeps8 F w w' → ((Value.slice A' (nl + 1) c').ownBlock = v.ownBlock ∨ (Value.slice A' (nl + 1) c').ownBlock = some w.heap.size) → K (a.put o.dst (.slice A' (nl + 1) c')) w') : o.wp Tryd.prog a w K Q := by
  subst hnl
  obtain ⟨v', w', hrun, h2, h3, h4, h5⟩ := run_appF h hFs g0 u hu hc hm o.type c hsz
  obtain ⟨A', c', hv, _⟩ := h2.form
  rw [List.length_append, List.length_singleton] at hv
  subst hv
  unfold Oper.wp execOp
  simp only [ho, resolve, invoke, builtin, Sem.run_bind, Sem.run_pure, Result.andThen_ok, List.map_toArray, List.map_cons, List.map_nil, hs, hx, hrun]
  exact hK A' c' w' h2 h3 h4 h5
theorem wpList_appF {ops : Array Oper} {rest : List Oper} {o : Oper} {a : Act} {Q : Exit → Act → World → Prop} (hgd : o.guard = none) (s x : Operand)
    (ho : o.op = .call { callee := .builtin .append, args := #[s, x], argTypes := #[89, 89] })
    (h : RowF w F v ls) (hFs : ∀ k ∈ F, k < w.heap.size) (hs : a.eval s = v) (g0 c : Nat) (hx : a.eval x = .slice (some ⟨g0, 0, none⟩) 1 c) (u : Value) (hu : u.oneCell' = true) (hc : w.cell? ⟨g0, 0, none⟩ = some u) (hm : BitF w F u m)
    (nl : Nat) (hnl : ls.length = nl) (hsz : nl + 1 ≤ 1000000)
    (hK : ∀ A' c' w', RowF w' (sincev F w w') (.slice A' (nl + 1) c') (ls ++ [m]) → w.grownBy w' v.ownBlock → Keeps8 F w w' → ((Value.slice A' (nl + 1) c').ownBlock = v.ownBlock ∨ (Value.slice A' (nl + 1) c').ownBlock = some w.heap.size) → wpList Tryd.prog ops Q rest (a.put o.dst (.slice A' (nl + 1) c')) w') : wpList Tryd.prog ops Q (o :: rest) a w :=
  wpList_plain hgd fun _ hk => wp_appF s x ho h hFs hs g0 c hx u hu hc hm nl hnl hsz fun A' c' w' h2 h3 h4 h5 => hk _ _ (hK A' c' w' h2 h3 h4 h5)
end
/-- What lies behind a net's pointer. -/
structure NetF (w : World) (p q n : Nat) (L : List (List (List UInt8))) (F : List Nat) : Prop where
  hF : ∀ k ∈ F, k < w.heap.size
  hp : p ∈ F
  hq : q ∈ F
  bp : Bk w p 67 #[.slice (some ⟨q, 0, none⟩) n n]
  hl : L.length = 2 * n
  hn : n ≤ 9
  bq : ∃ C, Bk w q 91 C ∧ C.size = 2 * n ∧ (∀ j, j < 2 * n → ∃ v, C[j]? = some v ∧ RowF w F v (L.getD j [])) ∧ ∀ (i j : Nat) v v', i ≠ j → C[i]? = some v → C[j]? = some v' → ∀ g, v.ownBlock = some g → v'.ownBlock ≠ some g
section
variable {w w' w1 : World} {p q n : Nat} {L : List (List (List UInt8))} {F F' : List Nat}
theorem NetF.at_ (h : NetF w p q n L F) (j : Nat) (hj : j < 2 * n) : ∃ A c, w.cell? ⟨q, j, none⟩ = some (.slice A (L.getD j []).length c) ∧ RowF w F (.slice A (L.getD j []).length c) (L.getD j []) ∧ (L.getD j []).length ≤ c ∧ c ≤ maxLen := by
  obtain ⟨C, h1, h2, h3, _⟩ := h.bq
  obtain ⟨v, hv, hr⟩ := h3 j hj
  obtain ⟨A, c, e, h4, h5⟩ := hr.form
  rw [e] at hv hr
  exact ⟨A, c, (h1.cell j).trans hv, hr, h4, h5⟩
theorem NetF.keep {G : List Nat} (h : NetF w p q n L F) (hu : Untouched G w w') (hd : ∀ k ∈ F, k ∉ G) : NetF w' p q n L F := by
  obtain ⟨C, h1, h2, h3, h4⟩ := h.bq
  have hk : Keeps8 F w w' := Keeps8.of_untouched hu h.hF hd
  refine ⟨fun k hk => Nat.lt_of_lt_of_le (h.hF k hk) hu.size, h.hp, h.hq, h.bp.untouched hu (hd p h.hp), h.hl, h.hn, C, h1.untouched hu (hd q h.hq), h2, fun j hj => ?_, h4⟩
  obtain ⟨v, hv, hr⟩ := h3 j hj
  exact ⟨v, hv, hr.keep (fun g e => hu.block g (hr.lt g e).1 (hd g (hr.lt g e).2)) hk fun k hk => hk⟩
theorem NetF.more (h : NetF w p q n L F) (hF : ∀ k ∈ F, k ∈ F') (hs : ∀ k ∈ F', k < w.heap.size) : NetF w p q n L F' := by
  obtain ⟨C, h1, h2, h3, h4⟩ := h.bq
  refine ⟨hs, hF p h.hp, hF q h.hq, h.bp, h.hl, h.hn, C, h1, h2, fun j hj => ?_, h4⟩
  obtain ⟨v, hv, hr⟩ := h3 j hj
  exact ⟨v, hv, hr.keep (fun g e => rfl) ⟨Nat.le_refl _, fun _ _ _ _ _ => rfl⟩ hF⟩
theorem NetF.below (h : NetF w p q n L F) (hb : Below w.heap.size w w') : NetF w' p q n L F := h.keep (G := []) (Untouched.of_below hb) fun k _ hk => by cases hk
/-- A row of a box is another one now: its block has turned, or a new one was laid. -/
theorem NetF.put (h : NetF w p q n L F) (j : Nat) (hj : j < 2 * n) {v : Value} (hv : w.cell? ⟨q, j, none⟩ = some v) (hg : w.grownBy w1 v.ownBlock) (hF : ∀ k ∈ F, k ∈ F') (hFs : ∀ k ∈ F', k < w1.heap.size) {v' : Value} {l' : List (List UInt8)} (hr : RowF w1 F' v' l') (hb : v'.ownBlock = none ∨ v'.ownBlock = v.ownBlock ∨ ∃ g, v'.ownBlock = some g ∧ w.heap.size ≤ g) :
    (NetF (w1.setCell ⟨q, j, none⟩ v') p q n (L.set j l') F' ∧ Untouched F w (w1.setCell ⟨q, j, none⟩ v') ∧ Keeps8 F w (w1.setCell ⟨q, j, none⟩ v')) ∧ w1.cell? ⟨q, j, none⟩ = some v ∧ w1.frozen? ⟨q, j, none⟩ = false := by
  obtain ⟨C, h1, h2, h3, h4⟩ := h.bq
  have hCj : C[j]? = some v := (h1.cell j).symm.trans hv
  obtain ⟨v0, hv0, hr0⟩ := h3 j hj
  obtain rfl : v0 = v := Option.some.inj (hv0.symm.trans hCj)
  have hkn : ∀ {b t cs}, Bk w b t cs → t ≠ 39 → some b ≠ v0.ownBlock := fun hbk ht e => by
    obtain ⟨cs', hh⟩ := hr0.ty _ e.symm
    exact hbk.ne (show Bk w _ 39 cs' from hh) ht rfl
  have bp1 : Bk w1 p 67 #[.slice (some ⟨q, 0, none⟩) n n] := (hg.block p h.bp.lt (hkn h.bp (by decide))).trans h.bp
  have bq1 : Bk w1 q 91 C := (hg.block q h1.lt (hkn h1 (by decide))).trans h1
  have hpq : p ≠ q := bp1.ne bq1 (by decide)
  have hs2 : (w1.setCell ⟨q, j, none⟩ v').heap.size = w1.heap.size := by simp
  have hg2 : w1.grownBy (w1.setCell ⟨q, j, none⟩ v') (some q) := grown_put (World.grownBy.refl w1 _) j v'
  have k1 : Keeps8 F w w1 := keeps_of hg h.hF fun g e => by
    obtain ⟨cs, hh⟩ := hr0.ty g e
    exact ⟨cs, (0, 0), 39, by decide, hh⟩
  have k2 : Keeps8 F' w1 (w1.setCell ⟨q, j, none⟩ v') := keeps_of hg2 hFs fun g e => by
    injection e with e
    subst e
    exact ⟨C, (0, 0), 91, by decide, bq1⟩
  have hrow : ∀ {v l}, RowF w1 F' v l → RowF (w1.setCell ⟨q, j, none⟩ v') F' v l := fun {v l} hr => hr.keep (fun g e => hg2.block g (hr.lt g e).1 (fun e2 => by
    injection e2 with e2
    subst e2
    obtain ⟨cs, hh⟩ := hr.ty _ e
    exact (show Bk w1 _ 39 cs from hh).ne bq1 (by decide) rfl)) k2 fun k hk => hk
  refine ⟨⟨?_, ?_, k1.trans ⟨k2.1, fun b hb => k2.2 b (hF b hb)⟩⟩, (bq1.cell j).trans hCj, bq1.frozen j⟩
  refine ⟨fun k hk => by rw [hs2]; exact hFs k hk, hF p h.hp, hF q h.hq, bp1.far (p := ⟨q, j, none⟩) hpq _, by rw [List.length_set]; exact h.hl, h.hn, C.setIfInBounds j v', bq1.set_ j v', by simp [h2], fun i hi => ?_, fun i k x y hik hx hy g hxg => ?_⟩
  · by_cases hij : j = i
    · subst hij
      refine ⟨v', by rw [Array.getElem?_setIfInBounds]; simp [h2, hj], ?_⟩
      have : (L.set j l').getD j [] = l' := by simp [List.getD, h.hl, hj]
      rw [this]
      exact hrow hr
    · obtain ⟨x, hx, hrx⟩ := h3 i hi
      refine ⟨x, by rw [Array.getElem?_setIfInBounds, if_neg hij]; exact hx, ?_⟩
      have : (L.set j l').getD i [] = L.getD i [] := by simp [List.getD, hij]
      rw [this]
      refine hrow (hrx.keep (fun g e => hg.block g (hrx.lt g e).1 (fun e2 => h4 i j x v0 (fun e => hij e.symm) hx hCj g e e2.symm)) k1 hF)
  · rw [Array.getElem?_setIfInBounds] at hx hy
    intro hyg
    by_cases hij : j = i
    · subst hij
      rw [if_pos rfl] at hx
      rw [if_neg hik] at hy
      have hxv : v' = x := by
        by_cases hlt : j < C.size
        · rw [if_pos hlt] at hx; exact Option.some.inj hx
        · rw [if_neg hlt] at hx; cases hx
      subst hxv
      have hk2 : k < 2 * n := by have := (Array.getElem?_eq_some_iff.1 hy).1; omega
      rcases hb with e | e | ⟨g', e, hlt⟩
      · rw [e] at hxg; cases hxg
      · exact h4 j k v0 y hik hCj hy g (by rw [← e]; exact hxg) hyg
      · rw [e] at hxg
        injection hxg with hxg
        subst hxg
        obtain ⟨y0, hy0, hry⟩ := h3 k hk2
        obtain rfl : y0 = y := Option.some.inj (hy0.symm.trans hy)
        have := (hry.lt _ hyg).1
        omega
    · rw [if_neg hij] at hx
      by_cases hkj : j = k
      · subst hkj
        rw [if_pos rfl] at hy
        have hyv : v' = y := by
          by_cases hlt : j < C.size
          · rw [if_pos hlt] at hy; exact Option.some.inj hy
          · rw [if_neg hlt] at hy; cases hy
        subst hyv
        have hi2 : i < 2 * n := by have := (Array.getElem?_eq_some_iff.1 hx).1; omega
        rcases hb with e | e | ⟨g', e, hlt⟩
        · rw [e] at hyg; cases hyg
        · exact h4 i j x v0 hik hx hCj g hxg (by rw [← e]; exact hyg)
        · rw [e] at hyg
          injection hyg with hyg
          subst hyg
          obtain ⟨x0, hx0, hrx⟩ := h3 i hi2
          obtain rfl : x0 = x := Option.some.inj (hx0.symm.trans hx)
          have := (hrx.lt _ hxg).1
          omega
      · rw [if_neg hkj] at hy
        exact h4 i k x y hik hx hy g hxg hyg
  · refine Untouched.trans (F' := F) (Untouched.of_grown hg fun k e => (hr0.lt k e).2) (Grew.refl _ _) (Untouched.set (w := w1) (F := F) q j h.hq v')
/-- A message laid alone, ahead of its append. -/
theorem NetF.laid (h : NetF w p q n L F) {j r c : Nat} {A : Option Addr} {l : List (List UInt8)} (hj : j < 2 * n) (hc : w.cell? ⟨q, j, none⟩ = some (.slice A r c)) (hr : RowF w F (.slice A r c) l) {u : Value} {m : List UInt8} (hm : BitF w F u m) {wa : World} (hwa : w.alloc (.cells #[u] 39) = wa) :
    Below w.heap.size w wa ∧ NetF wa p q n L F ∧ wa.cell? ⟨q, j, none⟩ = some (.slice A r c) ∧ RowF wa F (.slice A r c) l ∧ BitF wa F u m ∧ wa.cell? ⟨w.heap.size, 0, none⟩ = some u ∧ Keeps8 F w wa := by
  have hba : Below w.heap.size w wa := by rw [← hwa]; exact (Below.refl _ _).alloc (Nat.le_refl _) _
  have hk : Keeps8 F w wa := Keeps8.of_untouched (G := []) (Untouched.of_below hba) h.hF fun k _ hk => by cases hk
  exact ⟨hba, h.below hba, (hba.cell (p := ⟨q, j, none⟩) (h.hF q h.hq)).trans hc, hr.keep (fun g e => hba.block g (hr.lt g e).1) hk (fun k hk => hk), hm.keep hk (fun k hk => hk), by rw [← hwa]; exact World.cell?_alloc_mark _ _ _ _ _, hk⟩
end
end Go.Proofs.YtegfnlnbhhmkjaaDoor

namespace Go.Proofs.YtegfnlnbhhmkjaaDoor
set_option maxRecDepth 100000
open Go.RowKit
set_option linter.unusedVariables false
set_option linter.unusedSimpArgs false

theorem hidv_ {p : Prop} (h : p) : Hid p := h
set_option maxRecDepth 100000 in
set_option maxHeartbeats 1000000 in
theorem inbox_yes {w : World} {p q n : Nat} {L : List (List (List UInt8))} {F : List Nat} (h : NetF w p q n L F) (k : Nat) (hk : k < n) :
    Calls Tryd.prog 30 #[.pointer (some ⟨p, 0, none⟩), .int .i64 (k : Int)] w fun e w' => e = .returned (.pointer (some ⟨q, k * 2, none⟩)) ∧ w = w' := by
  have hn := h.hn
  have hc := h.bp.cell 0
  simp only [List.getElem?_toArray, List.getElem?_cons_zero] at hc
  have d1 : decide ((k : Int) < 0) = false := decide_eq_false (by omega)
  have d2 : decide ((n : Int) ≤ (k : Int)) = false := decide_eq_false (by omega)
  have d3 : decide (n ≤ k) = false := decide_eq_false (by omega)
  clear h
  go_enter Tryd.func30, Tryd.ntmps30
  go_wp2
  go_ret
  exact ⟨rfl, rfl⟩
set_option maxRecDepth 100000 in
set_option maxHeartbeats 1000000 in
theorem inbox_no {w : World} {p q n : Nat} {L : List (List (List UInt8))} {F : List Nat} (h : NetF w p q n L F) (z : Int) (hz : z < 0 ∨ (n : Int) ≤ z) :
    Calls Tryd.prog 30 #[.pointer (some ⟨p, 0, none⟩), .int .i64 z] w fun e w' => e = .returned (.pointer none) ∧ w = w' := by
  have hn := h.hn
  have hc := h.bp.cell 0
  simp only [List.getElem?_toArray, List.getElem?_cons_zero] at hc
  clear h
  by_cases h0 : z < 0
  · have d1 : decide (z < 0) = true := decide_eq_true h0
    clear hz h0
    go_enter Tryd.func30, Tryd.ntmps30
    go_wp2
    go_ret
    exact ⟨rfl, rfl⟩
  · have d1 : decide (z < 0) = false := decide_eq_false h0
    have d2 : decide ((n : Int) ≤ z) = true := decide_eq_true (by omega)
    clear hz h0
    go_enter Tryd.func30, Tryd.ntmps30
    go_wp2
    go_ret
    exact ⟨rfl, rfl⟩
set_option maxRecDepth 100000 in
set_option maxHeartbeats 1000000 in
theorem inbox_nil (w : World) (z : Int) :
    Calls Tryd.prog 30 #[.pointer none, .int .i64 z] w fun e w' => e = .returned (.pointer none) ∧ w = w' := by
  go_enter Tryd.func30, Tryd.ntmps30
  go_wp2
  go_ret
  exact ⟨rfl, rfl⟩
set_option maxRecDepth 100000 in
set_option maxHeartbeats 1000000 in
theorem has_any {w : World} (q o : Nat) (A : Option Addr) (m c : Nat) (hc : w.cell? ⟨q, o, none⟩ = some (.slice A m c)) (z : Int) :
    Calls Tryd.prog 33 #[.pointer (some ⟨q, o, none⟩), .int .i64 z] w fun e w' => e = .returned (.bool (decide (0 ≤ z) && decide (z < (m : Int)))) ∧ w = w' := by
  by_cases h0 : 0 ≤ z
  · have d1 : decide (0 ≤ z) = true := decide_eq_true h0
    clear h0
    go_enter Tryd.func33, Tryd.ntmps33
    go_wp2
    go_ret
    exact ⟨by rw [d1]; rfl, rfl⟩
  · have d1 : decide (0 ≤ z) = false := decide_eq_false h0
    clear h0
    go_enter Tryd.func33, Tryd.ntmps33
    go_wp2
    go_ret
    exact ⟨by rw [d1]; rfl, rfl⟩
set_option maxRecDepth 100000 in
set_option maxHeartbeats 1000000 in
theorem len_yesv {w : World} {p q n : Nat} {L : List (List (List UInt8))} {F : List Nat} (h : NetF w p q n L F) (k : Nat) (hk : k < n) (m : Nat) (hm : (L.getD (k * 2) []).length = m) :
    Calls Tryd.prog 10 #[.pointer (some ⟨p, 0, none⟩), .int .i64 (k : Int)] w fun e w' => e = .returned (.int .i64 (m : Int)) ∧ w = w' := by
  obtain ⟨A, c, hc, _⟩ := h.at_ (k * 2) (by omega)
  rw [hm] at hc
  have ci := inbox_yes h k hk
  clear hm h
  go_enter Tryd.func10, Tryd.ntmps10
  go_wp2_with (go_at_call 30; ((with_reducible refine ci.mono ?_); clear ci; rintro e w' ⟨rfl, rfl⟩))
  go_ret
  exact ⟨rfl, rfl⟩
set_option maxRecDepth 100000 in
set_option maxHeartbeats 1000000 in
theorem len_no {w : World} {P : Option Addr} (z : Int) (ci : Calls Tryd.prog 30 #[.pointer P, .int .i64 z] w fun e w' => e = .returned (.pointer none) ∧ w = w') :
    Calls Tryd.prog 10 #[.pointer P, .int .i64 z] w fun e w' => e = .returned (.int .i64 0) ∧ w = w' := by
  go_enter Tryd.func10, Tryd.ntmps10
  go_wp2_with (go_at_call 30; ((with_reducible refine ci.mono ?_); clear ci; rintro e w' ⟨rfl, rfl⟩))
  go_ret
  exact ⟨rfl, rfl⟩
/-- A net's act that tells an error or none. -/
def NetP (w : World) (p q n : Nat) (L : List (List (List UInt8))) (F : List Nat) (z : Int) (e : Ending) (w' : World) : Prop :=
  e = .returned (.int .i64 z) ∧ ∃ F', NetF w' p q n L F' ∧ Grew w F F' ∧ Untouched F w w'
/-- What add makes of the boxes, and what it tells. -/
def addL (L : List (List (List UInt8))) (k : Nat) (m : List UInt8) : List (List (List UInt8)) := if 64 ≤ (L.getD (k * 2) []).length then L else L.set (k * 2) (L.getD (k * 2) [] ++ [m])
def addE (L : List (List (List UInt8))) (k : Nat) : Int := if 64 ≤ (L.getD (k * 2) []).length then 10 else 0
theorem getD_self {L : List (List (List UInt8))} (j : Nat) : L.set j (L.getD j []) = L := by
  apply List.ext_getElem?
  intro i
  rw [List.getElem?_set]
  split
  · rename_i h; subst h
    split
    · rename_i h; simp [List.getD, h]
    · rename_i h; simp at h; simp [h]
  · rfl

set_option maxRecDepth 100000 in
set_option maxHeartbeats 4000000 in
theorem add_any {w : World} {p q n : Nat} {L : List (List (List UInt8))} {F : List Nat} (h : NetF w p q n L F) (k : Nat) (hk : k < n) (A0 : Option Addr) (n0 c0 : Nat) (m : List UInt8) (hn0 : m.length = n0) (hm : BitF w F (.slice A0 n0 c0) m) :
    Calls Tryd.prog 31 #[.pointer (some ⟨q, k * 2, none⟩), .slice A0 n0 c0] w (NetP w p q n (addL L k m) F (addE L k)) := by
  obtain ⟨A, c, hc, hr, hcl, hcm⟩ := h.at_ (k * 2) (by omega)
  obtain ⟨l, hl⟩ : ∃ l, (L.getD (k * 2) []) = l := ⟨_, rfl⟩
  unfold addL addE
  rw [hl] at hc hr hcl ⊢
  obtain ⟨r, hlr⟩ : ∃ r, l.length = r := ⟨_, rfl⟩
  rw [hlr] at hc hr hcl ⊢
  have HH := hidv_ h
  by_cases h64 : 64 ≤ r
  · have d1 : decide (64 ≤ (r : Int)) = true := decide_eq_true (by omega)
    have d2 : decide (64 ≤ r) = true := decide_eq_true (by omega)
    rw [if_pos h64, if_pos h64]
    clear h hr hl hlr hm h64
    go_enter Tryd.func31, Tryd.ntmps31
    go_wp2
    go_ret
    exact ⟨rfl, F, HH.out, Grew.refl _ _, Untouched.refl _ _⟩
  · have d1 : decide (64 ≤ (r : Int)) = false := decide_eq_false (by omega)
    have d2 : decide (64 ≤ r) = false := decide_eq_false (by omega)
    rw [if_neg h64, if_neg h64]
    obtain ⟨wa, hwa⟩ : ∃ w1, w.alloc (.cells #[.slice A0 n0 c0] 39) = w1 := ⟨_, rfl⟩
    have hba : Below w.heap.size w wa := by rw [← hwa]; exact (Below.refl _ _).alloc (Nat.le_refl _) _
    have ha := h.below hba
    have hca : wa.cell? ⟨q, k * 2, none⟩ = some (.slice A r c) := by rw [← hwa]; exact (World.cell?_alloc_lt w _ ⟨q, k * 2, none⟩ (h.hF q h.hq)).trans hc
    have hka : Keeps8 F w wa := Keeps8.of_untouched (G := []) (Untouched.of_below hba) h.hF fun k _ hk => by cases hk
    have hra := hr.keep (w' := wa) (F' := F) (fun g e => hba.block g (hr.lt g e).1) hka (fun k hk => hk)
    have hma := hm.keep hka (F' := F) (fun k hk => hk)
    have hcb : wa.cell? ⟨w.heap.size, 0, none⟩ = some (.slice A0 n0 c0) := by rw [← hwa]; exact World.cell?_alloc_mark _ _ _ _ _
    have HA := hidv_ ha
    have HRA := hidv_ hra
    have HMA := hidv_ hma
    have HLR := hidv_ hlr
    have HL := hidv_ hl
    have HBA := hidv_ hba
    have HCA := hidv_ hca
    have HCB := hidv_ hcb
    have HWA := hidv_ hwa
    have h6 : r + 1 ≤ 1000000 := by omega
    clear h hr hm ha hra hma hl hlr hba hka hca hcb h64
    go_enter Tryd.func31, Tryd.ntmps31
    go_upto_region 3 with fail
    go_wp2_with (at_builtin; go_loud (refine wpList_appF rfl (.tmp 15) (.tmp 17) rfl HRA.out HA.out.hF rfl w.heap.size 1 rfl (.slice A0 n0 c0) rfl HCB.out HMA.out r HLR.out h6 ?_); intro A' c' w2 k1 k2 k3 k4; obtain ⟨hput, hpc, hpf⟩ := HA.out.put (k * 2) (by omega) HCA.out k2 (F' := sincev F wa w2) (fun k hk => mem_since.2 (.inl hk)) (since_lt HA.out.hF k2.size) k1 (k4.elim (fun e => .inr (.inl e)) (fun e => .inr (.inr ⟨_, e, Nat.le_refl _⟩))); have HPUT := hidv_ hput; clear hput k1 k2 k3 k4)
    go_wp2
    go_ret
    exact ⟨rfl, sincev F wa w2, HPUT.out.1, fun k hk => (grew_since F wa w2 k hk).imp id (fun h => Nat.le_trans HBA.out.size h), (Untouched.of_below HBA.out).trans (Grew.refl _ _) HPUT.out.2.1⟩
set_option maxRecDepth 100000 in
set_option maxHeartbeats 4000000 in
/-- Send to a box that there is. -/
theorem send_yes {w : World} {p q n : Nat} {L : List (List (List UInt8))} {F : List Nat} (h : NetF w p q n L F) (k : Nat) (hk : k < n) (A0 : Option Addr) (n0 c0 : Nat) (m : List UInt8) (hn0 : m.length = n0) (hr : Rd w w.heap.size A0 m) (hn7 : n0 ≤ 140737488355328) :
    Calls Tryd.prog 9 #[.pointer (some ⟨p, 0, none⟩), .int .i64 (k : Int), .slice A0 n0 c0] w (NetP w p q n (addL L k m) F (addE L k)) := by
  have ci := inbox_yes h k hk
  have cc := clone_any A0 n0 c0 m w hn0 hr hn7
  have HH := hidv_ h
  have HN := hidv_ hn0
  obtain ⟨L', hL'⟩ : ∃ x, addL L k m = x := ⟨_, rfl⟩
  obtain ⟨z, hz⟩ : ∃ x, addE L k = x := ⟨_, rfl⟩
  have HL := hidv_ hL'
  have HZ := hidv_ hz
  rw [hL', hz]
  clear h hr hn0 hL' hz
  go_enter Tryd.func9, Tryd.ntmps9
  go_wp2_with (first
    | (go_at_call 30; ((with_reducible refine ci.mono ?_); clear ci; rintro e w' ⟨rfl, rfl⟩))
    | (go_at_call 32; ((with_reducible refine cc.mono ?_); clear cc; rintro e w1 ⟨A1, c1, rfl, ho, hb⟩; have ca := add_any ((HH.out.below hb).more (F' := sincev F w w1) (fun k hk => mem_since.2 (.inl hk)) (since_lt HH.out.hF hb.size)) k hk A1 n0 c1 m HN.out (ho.bitF fun k h1 h2 => mem_since.2 (.inr ⟨h1, h2⟩)); rw [HL.out, HZ.out] at ca; have HB := hidv_ hb; clear ho hb))
    | (go_at_call 31; ((with_reducible refine ca.mono ?_); clear ca; rintro e w2 ⟨rfl, F', h1, h2, h3⟩; have H1 := hidv_ h1; have H2 := hidv_ h2; have H3 := hidv_ h3; clear h1 h2 h3)))
  go_ret
  exact ⟨rfl, F', H1.out, (grew_since F w w1).trans HB.out.size H2.out, (Untouched.of_below HB.out).trans (grew_since F w w1) H3.out⟩
set_option maxRecDepth 100000 in
set_option maxHeartbeats 1000000 in
theorem send_no {w : World} {P : Option Addr} (z : Int) (ci : Calls Tryd.prog 30 #[.pointer P, .int .i64 z] w fun e w' => e = .returned (.pointer none) ∧ w = w') (v : Value) :
    Calls Tryd.prog 9 #[.pointer P, .int .i64 z, v] w fun e w' => e = .returned (.int .i64 1) ∧ w = w' := by
  go_enter Tryd.func9, Tryd.ntmps9
  go_wp2_with (go_at_call 30; ((with_reducible refine ci.mono ?_); clear ci; rintro e w' ⟨rfl, rfl⟩))
  go_ret
  exact ⟨rfl, rfl⟩
set_option maxRecDepth 100000 in
set_option maxHeartbeats 1000000 in
theorem take_no {w : World} {P : Option Addr} (z : Int) (ci : Calls Tryd.prog 30 #[.pointer P, .int .i64 z] w fun e w' => e = .returned (.pointer none) ∧ w = w') (y : Int) :
    Calls Tryd.prog 11 #[.pointer P, .int .i64 z, .int .i64 y] w fun e w' => e = .returned (.tuple #[.slice none 0 0, .int .i64 1]) ∧ w = w' := by
  go_enter Tryd.func11, Tryd.ntmps11
  go_wp2_with (go_at_call 30; ((with_reducible refine ci.mono ?_); clear ci; rintro e w' ⟨rfl, rfl⟩))
  go_ret2
  exact ⟨rfl, rfl⟩
end Go.Proofs.YtegfnlnbhhmkjaaDoor
