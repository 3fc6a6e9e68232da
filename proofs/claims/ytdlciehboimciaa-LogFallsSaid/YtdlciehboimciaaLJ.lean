/-
  Merged: Lgj Lgk Lgt Lgu.
-/
import Derived.Test.YtdlciehboimciaaLE
import Derived.Test.YtdlciehboimciaaGn
import Derived.Test.YtdlciehboimciaaDD
import Derived.Test.YtdlciehboimciaaLM
import Derived.OwnWalk
namespace Go.Proofs.Ytdlciehboimciaa
set_option maxRecDepth 100000
open Go.RowKit
set_option linter.unusedVariables false
set_option linter.unusedSimpArgs false

set_option maxRecDepth 100000 in
set_option maxHeartbeats 1000000 in
theorem bytesEq_any (w : World) (B B' : Nat) (A A' : Option Addr) (n c n' c' : Nat) (l m : List UInt8) (hl : l.length = n) (hm : m.length = n') (hr : Rd w B A l) (hr' : Rd w B' A' m) :
    Calls Try.prog 63 #[.slice A n c, .slice A' n' c'] w fun e w' => e = .returned (.bool (decide (l = m))) ∧ w = w' := by
  have k1 := conv_strn hr n c hl
  have k2 := conv_strn hr' n' c' hm
  clear hr hr' hl hm
  by_cases h : l = m
  · rw [decide_eq_true h]
    have he := strOf_eq l m h
    clear h
    generalize strOf l = x at *
    generalize strOf m = y at *
    go_enter Try.func63, Try.ntmps63
    go_wp2
    go_ret
    exact ⟨rfl, rfl⟩
  · rw [decide_eq_false h]
    have he := strOf_ne l m h
    clear h
    generalize strOf l = x at *
    generalize strOf m = y at *
    go_enter Try.func63, Try.ntmps63
    go_wp2
    go_ret
    exact ⟨rfl, rfl⟩
/-! A row of slices of bytes, each in memory of its own. -/
def RecR (w : World) (base : Nat) (v : Value) (L : List (List UInt8)) : Prop :=
  ∃ vs, w.ownsRow base 39 1 v L.length vs ∧ vs.length = L.length ∧ ∀ j, j < L.length → ∃ A c, vs[j]? = some (.slice A (L.getD j []).length c) ∧ Own8 w base (.slice A (L.getD j []).length c) (L.getD j [])
theorem infoSl : (Try.prog.info? 39).map (fun i => (i.zero, i.size, i.bytes)) = some (some (.slice none 0 0), 1, 24) := by kernel_rfl
section
variable {w w' : World} {base : Nat} {v : Value} {L : List (List UInt8)}
theorem RecR.nil_ (w : World) (base : Nat) : RecR w base (.slice none 0 0) [] := ⟨[], World.ownsRow_nil w base 39 1, rfl, fun j hj => absurd hj (by simp)⟩
theorem RecR.at_ (h : RecR w base v L) (hk : ∀ k, base ≤ k → k < w.heap.size → w'.heap[k]? = w.heap[k]?) : RecR w' base v L := by
  obtain ⟨vs, h1, h2, h3⟩ := h
  refine ⟨vs, ownsRow_heapk h1 fun g hg => hk g (World.ownsRow.lt h1 g hg).1 (World.ownsRow.lt h1 g hg).2, h2, fun j hj => ?_⟩
  obtain ⟨A, c, e, ho⟩ := h3 j hj
  exact ⟨A, c, e, ownsRow_heapk ho fun g hg => hk g (World.ownsRow.lt ho g hg).1 (World.ownsRow.lt ho g hg).2⟩
theorem RecR.form (h : RecR w base v L) : ∃ A c, v = .slice A L.length c := by
  obtain ⟨vs, h1, h2, h3⟩ := h
  rcases h1.2 with ⟨hv, h0⟩ | ⟨g, cap, cur, hv, _⟩
  · exact ⟨none, 0, by rw [h0]; exact hv⟩
  · exact ⟨_, cap, hv⟩
/-- append of one. -/
theorem RecR.app (h : RecR w base v L) (g : Nat) {A : Option Addr} {n c : Nat} {m : List UInt8} (hn : m.length = n) (ho : Own8 w base (.slice A n c) m) (hc : w.cell? ⟨g, 0, none⟩ = some (.slice A n c)) (ty : TypeId) (cc : Nat) (hsz : L.length + 1 ≤ 1000000) (hbase : base ≤ w.heap.size) :
    ∃ A' c' w', (Builtin.append_ #[32, 32] ty #[v, .slice (some ⟨g, 0, none⟩) 1 cc]).run Try.prog w = .ok (.slice A' (L.length + 1) c') w' ∧ RecR w' base (.slice A' (L.length + 1) c') (L ++ [m]) ∧ w.grownBy w' v.ownBlock := by
  subst hn
  obtain ⟨vs, h1, h2, h3⟩ := h
  obtain ⟨i, hi, hz, hsize, hby⟩ := info_parts infoSl
  obtain ⟨v', w', hrun, h5, h4, _, h6⟩ := run_append_own_at (P := Try.prog) w base 32 ty 39 i (.slice none 0 0) 1 24 Try.underlying32 hi hz hsize hby rfl (by decide) v L.length vs h1 ⟨g, 0, none⟩ 1 cc [.slice A m.length c]
      rfl (fun j x hx => by
        match j, hx with
        | 0, hx => obtain rfl : Value.slice A m.length c = x := by simpa using hx
                   exact hc) (fun x hx => by obtain rfl : x = Value.slice A m.length c := by simpa using hx
                                             rfl) (by simp only [maxLen]; omega) (by omega) hbase
  have hpart : ∀ (u : Value) (x : List UInt8), Own8 w base u x → Own8 w' base u x := fun u x hu => ownsRow_heapk hu fun k hk => h4.block k (World.ownsRow.lt hu k hk).2 fun e => by
    obtain ⟨_, _, cs, e1⟩ := ownsRow_ty hu k hk
    obtain ⟨_, _, cs2, e2⟩ := ownsRow_ty h1 k e.symm
    rw [e1] at e2
    injection e2 with e2
    injection e2 with _ e3
    exact absurd e3 (by decide)
  have hR : RecR w' base v' (L ++ [m]) := by
    refine ⟨vs ++ [.slice A m.length c], ?_, by simp [h2], fun j hj => ?_⟩
    · rw [List.length_append]
      exact h5
    · rcases Nat.lt_or_ge j L.length with h7 | h7
      · obtain ⟨A2, c2, h8, h9⟩ := h3 j h7
        have e : (L ++ [m]).getD j [] = L.getD j [] := by simp [List.getD, List.getElem?_append_left h7]
        rw [e]
        exact ⟨A2, c2, by rw [List.getElem?_append_left (by rw [h2]; exact h7)]; exact h8, hpart _ _ h9⟩
      · simp at hj
        obtain rfl : j = L.length := by omega
        have e : (L ++ [m]).getD L.length [] = m := by simp [List.getD]
        rw [e]
        exact ⟨A, c, by rw [← h2]; simp, hpart _ _ ho⟩
  obtain ⟨A', c', hv⟩ := hR.form
  rw [List.length_append, List.length_singleton] at hv
  subst hv
  exact ⟨A', c', w', hrun, hR, h4⟩
theorem wpList_appR {ops : Array Oper} {rest : List Oper} {o : Oper} {a : Act} {Q : Exit → Act → World → Prop} (hgd : o.guard = none) (s x : Operand)
    (ho : o.op = .call { callee := .builtin .append, args := #[s, x], argTypes := #[32, 32] })
    (h : RecR w base v L) (hs : a.eval s = v) (g cc : Nat) (hx : a.eval x = .slice (some ⟨g, 0, none⟩) 1 cc) {A : Option Addr} {n c : Nat} {m : List UInt8} (hn : m.length = n) (hm : Own8 w base (.slice A n c) m) (hc : w.cell? ⟨g, 0, none⟩ = some (.slice A n c))
    (nl : Nat) (hnl : L.length = nl) (hsz : nl + 1 ≤ 1000000) (hbase : base ≤ w.heap.size)
    (hK : ∀ A' c' w', RecR w' base (.slice A' (nl + 1) c') (L ++ [m]) → w.grownBy w' v.ownBlock → wpList Try.prog ops Q rest (a.put o.dst (.slice A' (nl + 1) c')) w') : wpList Try.prog ops Q (o :: rest) a w := by
  subst hnl
  refine wpList_plain hgd fun K hKK => ?_
  obtain ⟨A', c', w', hrun, h2, h3⟩ := h.app g hn hm hc o.type cc hsz hbase
  unfold Oper.wp execOp
  simp only [ho, resolve, invoke, builtin, Sem.run_bind, Sem.run_pure, Result.andThen_ok, List.map_toArray, List.map_cons, List.map_nil, hs, hx, hrun]
  exact hKK _ _ (hK A' c' w' h2 h3)
end
end Go.Proofs.Ytdlciehboimciaa

namespace Go.Proofs.Ytdlciehboimciaa
set_option maxRecDepth 100000
open Go.RowKit
set_option linter.unusedVariables false
set_option linter.unusedSimpArgs false

theorem numS_len (size : Nat) (most : Int) (l : List UInt8) (e : Int) : (numS size most l e).2.1.length ≤ l.length ∧ ((numS size most l e).2.2 = 0 → (numS size most l e).2.1.length + size = l.length) := by
  unfold numS
  split
  · exact ⟨Nat.le_refl _, fun h => absurd h (by assumption)⟩
  · split
    · exact ⟨Nat.le_refl _, fun h => absurd (show (3 : Int) = 0 from h) (by decide)⟩
    · split
      · exact ⟨Nat.le_refl _, fun h => absurd (show (5 : Int) = 0 from h) (by decide)⟩
      · exact ⟨by simp, fun _ => by simp; omega⟩
theorem fixS_len (n : Int) (l : List UInt8) (e : Int) : (fixS n l e).1.length + (fixS n l e).2.1.length ≤ l.length ∧ ((fixS n l e).2.2 = 0 → e = 0) ∧ (0 < (fixS n l e).1.length → e = 0 ∧ (fixS n l e).2.2 = 0) := by
  unfold fixS
  split
  · exact ⟨by simp, fun h => h, fun h => by simp at h⟩
  · rename_i hh
    have he : e = 0 := by
      apply Classical.byContradiction
      intro h
      exact hh (.inl h)
    split
    · exact ⟨by simp, fun _ => he, fun h => by simp at h⟩
    · exact ⟨by simp; omega, fun _ => he, fun _ => ⟨he, rfl⟩⟩
/-- Where the check is right, eight bytes at least are gone. -/
theorem rc_less (N : Nat) (l : List UInt8) (e : Int) (h : (rcB N l e).1 = crcL (rcA N l e).1) : (rcA N l e).1.length + (rcB N l e).2.1.length + 8 ≤ l.length := by
  have h4 : (rcB N l e).1.length = 4 := by rw [h, crcL_len]
  have f2 := fixS_len 4 (rcA N l e).2.1 (rcA N l e).2.2
  have f1 := fixS_len (numS 4 (N : Int) l e).1 (numS 4 (N : Int) l e).2.1 (numS 4 (N : Int) l e).2.2
  have f0 := numS_len 4 (N : Int) l e
  have e2 : (rcB N l e).1.length + (rcB N l e).2.1.length ≤ (rcA N l e).2.1.length := f2.1
  have e3 : (rcA N l e).2.2 = 0 := (f2.2.2 (by show 0 < (rcB N l e).1.length; omega)).1
  have e1 : (rcA N l e).1.length + (rcA N l e).2.1.length ≤ (numS 4 (N : Int) l e).2.1.length := f1.1
  have e0 := f0.2 (f1.2.1 e3)
  omega
theorem rcA_len (N : Nat) (l : List UInt8) (e : Int) : (rcA N l e).1.length + (rcA N l e).2.1.length ≤ l.length := by
  have f1 := fixS_len (numS 4 (N : Int) l e).1 (numS 4 (N : Int) l e).2.1 (numS 4 (N : Int) l e).2.2
  have f0 := numS_len 4 (N : Int) l e
  have e1 : (rcA N l e).1.length + (rcA N l e).2.1.length ≤ (numS 4 (N : Int) l e).2.1.length := f1.1
  omega
theorem recsL_fuel (N : Nat) : ∀ (m : Nat) (l : List UInt8) (e : Int), l.length ≤ m → ∀ k1 k2, l.length < k1 → l.length < k2 → recsL k1 N l e = recsL k2 N l e
  | m, l, e, hm, 0, _, h1, _ => absurd h1 (by omega)
  | m, l, e, hm, _, 0, _, h2 => absurd h2 (by omega)
  | m, l, e, hm, k1 + 1, k2 + 1, h1, h2 => by
    show (if (rcB N l e).1 = crcL (rcA N l e).1 then (rcA N l e).1 :: recsL k1 N (rcB N l e).2.1 (rcB N l e).2.2 else []) = (if (rcB N l e).1 = crcL (rcA N l e).1 then (rcA N l e).1 :: recsL k2 N (rcB N l e).2.1 (rcB N l e).2.2 else [])
    by_cases h : (rcB N l e).1 = crcL (rcA N l e).1
    · have hl := rc_less N l e h
      rw [if_pos h, if_pos h]
      match m, hm with
      | 0, hm => exact absurd hl (by omega)
      | m + 1, hm => rw [recsL_fuel N m (rcB N l e).2.1 (rcB N l e).2.2 (by omega) k1 k2 (by omega) (by omega)]
    · rw [if_neg h, if_neg h]
theorem recsL_yes (N : Nat) (l : List UInt8) (e : Int) (h : (rcB N l e).1 = crcL (rcA N l e).1) : recsL (l.length + 1) N l e = (rcA N l e).1 :: recsL ((rcB N l e).2.1.length + 1) N (rcB N l e).2.1 (rcB N l e).2.2 := by
  have hl := rc_less N l e h
  rw [recsL_fuel N _ (rcB N l e).2.1 (rcB N l e).2.2 (Nat.le_refl _) ((rcB N l e).2.1.length + 1) l.length (by omega) (by omega)]
  show (if (rcB N l e).1 = crcL (rcA N l e).1 then (rcA N l e).1 :: recsL l.length N (rcB N l e).2.1 (rcB N l e).2.2 else []) = _
  rw [if_pos h]
theorem recsL_no (N : Nat) (l : List UInt8) (e : Int) (h : ¬ (rcB N l e).1 = crcL (rcA N l e).1) : recsL (l.length + 1) N l e = [] := by
  show (if (rcB N l e).1 = crcL (rcA N l e).1 then (rcA N l e).1 :: recsL l.length N (rcB N l e).2.1 (rcB N l e).2.2 else []) = _
  rw [if_neg h]
def lenV : Value → Nat
  | .slice _ n _ => n
  | _ => 0
/-- What the loop keeps. -/
structure RcI (w W : World) (gi base n : Nat) (F : List Nat) (b l : List UInt8) (er : Int) (v : Value) (pre : List (List UInt8)) : Prop where
  i : InF W gi l er F
  o : RecR W base v pre
  be : Below w.heap.size w W
  lo : w.heap.size ≤ base
  hi : base ≤ W.heap.size
  fF : ∀ k ∈ F, w.heap.size ≤ k ∧ k < base
  eq : recsV b = pre ++ recsL (l.length + 1) n l er
  len : pre.length * 8 + l.length ≤ n
section
variable {w W w4 w5 w6 : World} {gi base n m4 c4 m5 c5 : Nat} {F : List Nat} {b l : List UInt8} {er : Int} {v : Value} {pre : List (List UInt8)} {A4 A5 : Option Addr}
/-- Behind Bytes: the In; the record; what was found; all else. -/
theorem rc_step1 (h : RcI w W gi base n F b l er v pre) (hm : m4 = (rcA n l er).1.length) (ho : Own8 w4 W.heap.size (.slice A4 m4 c4) (rcA n l er).1) (hi : InF w4 gi (rcA n l er).2.1 (rcA n l er).2.2 F) (hu : Untouched [gi] W w4) :
    InF w4 gi (rcA n l er).2.1 (rcA n l er).2.2 F ∧ Own8 w4 W.heap.size (.slice A4 m4 c4) (rcA n l er).1 ∧ RecR w4 base v pre ∧ Below w.heap.size w w4 ∧ W.heap.size ≤ w4.heap.size := by
  have hg := h.fF gi h.i.1
  refine ⟨hi, ho, h.o.at_ fun k hk hlt => hu.block k hlt (by simp; omega), h.be.trans (hu.below (fun k hk => by rw [List.mem_singleton.1 hk]; exact hg.1) h.be.size), hu.size⟩
theorem rc_step2 (h : RcI w W gi base n F b l er v pre) (h4 : InF w4 gi (rcA n l er).2.1 (rcA n l er).2.2 F ∧ Own8 w4 W.heap.size (.slice A4 m4 c4) (rcA n l er).1 ∧ RecR w4 base v pre ∧ Below w.heap.size w w4 ∧ W.heap.size ≤ w4.heap.size)
    (hm : m5 = (rcB n l er).1.length) (ho : Own8 w5 w4.heap.size (.slice A5 m5 c5) (rcB n l er).1) (hi : InF w5 gi (rcB n l er).2.1 (rcB n l er).2.2 F) (hu : Untouched [gi] w4 w5) :
    InF w5 gi (rcB n l er).2.1 (rcB n l er).2.2 F ∧ Own8 w5 W.heap.size (.slice A4 m4 c4) (rcA n l er).1 ∧ Own8 w5 w4.heap.size (.slice A5 m5 c5) (rcB n l er).1 ∧ RecR w5 base v pre ∧ Below w.heap.size w w5 ∧ W.heap.size ≤ w5.heap.size := by
  have hg := h.fF gi h.i.1
  have hb := h.hi
  exact ⟨hi, ownsRow_heapk h4.2.1 fun k hk => hu.block k (World.ownsRow.lt h4.2.1 k hk).2 (by have := (World.ownsRow.lt h4.2.1 k hk).1; simp; omega), ho, h4.2.2.1.at_ fun k hk hlt => hu.block k hlt (by simp; omega), h4.2.2.2.1.trans (hu.below (fun k hk => by rw [List.mem_singleton.1 hk]; exact hg.1) h4.2.2.2.1.size), Nat.le_trans h4.2.2.2.2 hu.size⟩
theorem rc_step3 {x y : List UInt8} {z : Int} {r : List UInt8} {B : Nat} (h5 : InF w5 gi y z F ∧ Own8 w5 B (.slice A4 m4 c4) r ∧ Own8 w5 w4.heap.size (.slice A5 m5 c5) x ∧ RecR w5 base v pre ∧ Below w.heap.size w w5 ∧ B ≤ w5.heap.size) (hb : Below w5.heap.size w5 w6) :
    InF w6 gi y z F ∧ Own8 w6 B (.slice A4 m4 c4) r ∧ Own8 w6 w4.heap.size (.slice A5 m5 c5) x ∧ RecR w6 base v pre ∧ Below w.heap.size w w6 ∧ B ≤ w6.heap.size :=
  ⟨h5.1.below hb, h5.2.1.below hb (Nat.le_refl _), h5.2.2.1.below hb (Nat.le_refl _), h5.2.2.2.1.at_ fun k _ hk => hb.block k hk, h5.2.2.2.2.1.trans (hb.mono h5.2.2.2.2.1.size), Nat.le_trans h5.2.2.2.2.2 hb.size⟩
end
set_option maxRecDepth 100000 in
set_option maxHeartbeats 8000000 in
theorem recordsOf_any (w : World) (A : Option Addr) (n c : Nat) (b : List UInt8) (hn : b.length = n) (hr : Rd w w.heap.size A b) (hm : n ≤ 1000000) :
    Calls Try.prog 45 #[.slice A n c] w fun e w' => ∃ A' k c', e = .returned (.slice A' k c') ∧ (recsV b).length = k ∧ RecR w' w.heap.size (.slice A' k c') (recsV b) ∧ Below w.heap.size w w' := by
  have co := of_any w A n c b hn hr (by omega)
  have HN := hidg_ hn
  clear hr hn
  go_enter Try.func45, Try.ntmps45
  go_wp2_with (go_at_call 60; ((with_reducible refine co.mono ?_); clear co; rintro e w3 ⟨gi, F, rfl, hI3, hF3, hB3⟩; have I0 := hidg_ (show RcI w w3 gi w3.heap.size n F b b 0 (.slice none 0 0) [] from ⟨hI3, RecR.nil_ _ _, hB3, hB3.size, Nat.le_refl _, hF3, by rw [List.nil_append, recsV, HN.out], by simp [HN.out]⟩); obtain ⟨base, hbase⟩ : ∃ x, w3.heap.size = x := ⟨_, rfl⟩; rw [hbase] at I0; clear hI3 hF3 hB3 hbase))
  go_loopw [3] (fun v wr => ∃ (nl : Nat) (A' : Option Addr) (c' : Nat) (l : List UInt8) (er : Int) (pre : List (List UInt8)), v = .slice A' nl c' ∧ Hid (pre.length = nl) ∧ Hid (RcI w wr gi base n F b l er (.slice A' nl c') pre)) (fun v _ => n + 1 - lenV v)
  case atStart => exact ⟨0, none, 0, b, 0, [], rfl, rfl, I0⟩
  case round =>
    obtain ⟨nl, A', c', l, er, pre, rfl, HNL, HI⟩ := hrel
    by_cases hc : (rcB n l er).1 = crcL (rcA n l er).1
    · go_wp2_with (first
        | (go_at_call 61; have cp := inbytes_any wr gi (n : Int) l er F HI.out.i (by have := HI.out.len; omega) (by omega) (by omega); ((with_reducible refine cp.mono ?_); clear cp; rintro e w4 ⟨⟨A4, m4, c4, rfl, hm4, hO4⟩, hI4, hU4⟩; obtain ⟨q4, hq4⟩ : ∃ q, 4 + m4 = q := ⟨_, rfl⟩; have S4 := hidg_ (rc_step1 HI.out hm4 hO4 hI4 hU4); have hm4b : m4 ≤ 1000000 := (by have h1 := rcA_len n l er; have h2 := HI.out.len; have h3 : m4 = (rcA n l er).1.length := hm4; omega); have hw4 : IntKind.i64.wrap (4 + (m4 : Int)) = (q4 : Int) := (by rw [IntWalk.i64_in _ (by omega)]; omega); have M4 : Hid ((rcA n l er).1.length = m4) := hidg_ hm4.symm; have HQ4 := hidg_ hq4; clear hm4 hO4 hI4 hU4 hq4))
        | (go_at_call 62; have cp := infixed_any w4 gi 4 _ _ F S4.out.1 (by have h1 := rcA_len n l er; have h2 := HI.out.len; omega); ((with_reducible refine cp.mono ?_); clear cp; rintro e w5 ⟨⟨A5, m5, c5, rfl, hm5, hO5⟩, hI5, hU5⟩; have S5 := hidg_ (rc_step2 HI.out S4.out hm5 hO5 hI5 hU5); have M5 : Hid ((rcB n l er).1.length = m5) := hidg_ hm5.symm; clear hm5 hO5 hI5 hU5))
        | (go_at_call 37; have cp := recBytes_any A4 m4 c4 (rcA n l er).1 w5 M4.out S5.out.2.1.rd.1 hm4b; ((with_reducible refine cp.mono ?_); clear cp; rintro e w6 ⟨A6, c6, rfl, hO6, hB6⟩; have s6 := (fun W => slice_from A6 (m4 + 8) c6 q4 (by have := HQ4.out; omega) W); have hR7 := rd_from hO6.rd.1 c6 q4 (by rw [recB_len, M4.out]; have := HQ4.out; omega) (by rw [recB_len, M4.out]; exact hO6.cap.1); have hq8 : m4 + 8 - q4 = 4 := (by have := HQ4.out; omega); rw [hq8] at s6; rw [show q4 = 4 + (rcA n l er).1.length by rw [M4.out]; exact HQ4.out.symm, recB_drop] at hR7; have hq9 : 4 + (rcA n l er).1.length = q4 := (by rw [M4.out]; exact HQ4.out); rw [hq9] at hR7; generalize (if c6 = q4 then A6 else A6.map (·.add q4)) = A7 at s6 hR7; have R7 := hidg_ hR7; have B6 := hidg_ (Nat.le_trans HI.out.hi (Nat.le_trans S5.out.2.2.2.2.2 hB6.size)); have S6 := hidg_ (rc_step3 S5.out hB6); clear hO6 hB6 hR7 hq8 hq9))
        | (go_at_call 63; have cp := bytesEq_any w6 _ _ A5 A7 m5 c5 4 (c6 - q4) (rcB n l er).1 (crcL (rcA n l er).1) M5.out (crcL_len _) S6.out.2.2.1.rd.1 R7.out; rw [decide_eq_true hc] at cp; have R6 := hidg_ S6.out.2.2.2.1; have O6r := hidg_ (World.ownsRow.mono S6.out.2.1 HI.out.hi); ((with_reducible refine cp.mono ?_); clear cp; rintro e w7 ⟨rfl, rfl⟩))
        | (at_builtin; go_loud (refine wpList_appR rfl (.tmp 25) (.tmp 27) rfl (R6.out.at_ (w' := w6.alloc (.cells #[.slice A4 m4 c4] 39)) fun k _ hk => Below.heap_alloc w6 _ k hk) rfl w6.heap.size 1 rfl M4.out (O6r.out.alloc _) ((Bk.new w6 _ _).cell 0) nl HNL.out (by have := HI.out.len; have := HNL.out; omega) (by have := B6.out; simp; omega) ?_); intro A8 c8 w8 k1 k2; have K1 := hidg_ k1; have K2 := hidg_ k2; clear k1 k2))
      go_roundw
      case rel =>
        have h6 := S6.out
        have hlt : ∀ k, (Value.slice A' nl c').ownBlock = some k → base ≤ k ∧ k < w6.heap.size := fun k hk => by
          obtain ⟨vs, h1, _, _⟩ := R6.out
          exact World.ownsRow.lt h1 k hk
        have hU : Untouched ((Value.slice A' nl c').ownBlock.toList) (w6.alloc (.cells #[.slice A4 m4 c4] 39)) w8 := Untouched.of_grown K2.out fun k hk => by simp [hk]
        have hA : Below w6.heap.size w6 (w6.alloc (.cells #[.slice A4 m4 c4] 39)) := (Below.refl _ _).alloc (Nat.le_refl _) _
        have hXA := h6.2.2.2.2.1.trans (hA.mono h6.2.2.2.2.1.size)
        refine ⟨nl + 1, A8, c8, (rcB n l er).2.1, (rcB n l er).2.2, pre ++ [(rcA n l er).1], rfl, hidg_ (by simp [HNL.out]), hidg_ ⟨(h6.1.below hA).apart hU fun k hk hm => ?_, K1.out, hXA.trans (hU.below (fun k hk => ?_) hXA.size), HI.out.lo, by have := hU.size; have := hA.size; have := B6.out; omega, HI.out.fF, ?_, ?_⟩⟩
        · have h1 := (hlt k (by simpa using hm)).1
          have := (HI.out.fF k hk).2
          omega
        · have h1 := (hlt k (by simpa using hk)).1
          exact Nat.le_trans HI.out.lo h1
        · rw [HI.out.eq, recsL_yes n l er hc, List.append_assoc]
          rfl
        · have h1 := rc_less n l er hc
          have h2 := HI.out.len
          simp only [List.length_append, List.length_singleton]
          omega
      case measure =>
        have := HI.out.len
        have := HNL.out
        simp only [lenV]
        omega
    · go_wp2_with (first
        | (go_at_call 61; have cp := inbytes_any wr gi (n : Int) l er F HI.out.i (by have := HI.out.len; omega) (by omega) (by omega); ((with_reducible refine cp.mono ?_); clear cp; rintro e w4 ⟨⟨A4, m4, c4, rfl, hm4, hO4⟩, hI4, hU4⟩; obtain ⟨q4, hq4⟩ : ∃ q, 4 + m4 = q := ⟨_, rfl⟩; have S4 := hidg_ (rc_step1 HI.out hm4 hO4 hI4 hU4); have hm4b : m4 ≤ 1000000 := (by have h1 := rcA_len n l er; have h2 := HI.out.len; have h3 : m4 = (rcA n l er).1.length := hm4; omega); have hw4 : IntKind.i64.wrap (4 + (m4 : Int)) = (q4 : Int) := (by rw [IntWalk.i64_in _ (by omega)]; omega); have M4 : Hid ((rcA n l er).1.length = m4) := hidg_ hm4.symm; have HQ4 := hidg_ hq4; clear hm4 hO4 hI4 hU4 hq4))
        | (go_at_call 62; have cp := infixed_any w4 gi 4 _ _ F S4.out.1 (by have h1 := rcA_len n l er; have h2 := HI.out.len; omega); ((with_reducible refine cp.mono ?_); clear cp; rintro e w5 ⟨⟨A5, m5, c5, rfl, hm5, hO5⟩, hI5, hU5⟩; have S5 := hidg_ (rc_step2 HI.out S4.out hm5 hO5 hI5 hU5); have M5 : Hid ((rcB n l er).1.length = m5) := hidg_ hm5.symm; clear hm5 hO5 hI5 hU5))
        | (go_at_call 37; have cp := recBytes_any A4 m4 c4 (rcA n l er).1 w5 M4.out S5.out.2.1.rd.1 hm4b; ((with_reducible refine cp.mono ?_); clear cp; rintro e w6 ⟨A6, c6, rfl, hO6, hB6⟩; have s6 := (fun W => slice_from A6 (m4 + 8) c6 q4 (by have := HQ4.out; omega) W); have hR7 := rd_from hO6.rd.1 c6 q4 (by rw [recB_len, M4.out]; have := HQ4.out; omega) (by rw [recB_len, M4.out]; exact hO6.cap.1); have hq8 : m4 + 8 - q4 = 4 := (by have := HQ4.out; omega); rw [hq8] at s6; rw [show q4 = 4 + (rcA n l er).1.length by rw [M4.out]; exact HQ4.out.symm, recB_drop] at hR7; have hq9 : 4 + (rcA n l er).1.length = q4 := (by rw [M4.out]; exact HQ4.out); rw [hq9] at hR7; generalize (if c6 = q4 then A6 else A6.map (·.add q4)) = A7 at s6 hR7; have R7 := hidg_ hR7; have B6 := hidg_ (Nat.le_trans HI.out.hi (Nat.le_trans S5.out.2.2.2.2.2 hB6.size)); have S6 := hidg_ (rc_step3 S5.out hB6); clear hO6 hB6 hR7 hq8 hq9))
        | (go_at_call 63; have cp := bytesEq_any w6 _ _ A5 A7 m5 c5 4 (c6 - q4) (rcB n l er).1 (crcL (rcA n l er).1) M5.out (crcL_len _) S6.out.2.2.1.rd.1 R7.out; rw [decide_eq_false hc] at cp; have R6 := hidg_ S6.out.2.2.2.1; have O6r := hidg_ (World.ownsRow.mono S6.out.2.1 HI.out.hi); ((with_reducible refine cp.mono ?_); clear cp; rintro e w7 ⟨rfl, rfl⟩)))
      go_ret
      have h6 := S6.out
      have he := HI.out.eq
      rw [recsL_no n l er hc, List.append_nil] at he
      rw [he]
      obtain ⟨vs, h1, h2, h3⟩ := R6.out
      exact ⟨A', nl, c', rfl, HNL.out, ⟨vs, World.ownsRow.mono h1 HI.out.lo, h2, fun j hj => by obtain ⟨A9, c9, e9, o9⟩ := h3 j hj; exact ⟨A9, c9, e9, World.ownsRow.mono o9 HI.out.lo⟩⟩, h6.2.2.2.2.1⟩
end Go.Proofs.Ytdlciehboimciaa

namespace Go.Proofs.Ytdlciehboimciaa
set_option maxRecDepth 100000
open Go.RowKit
set_option linter.unusedVariables false
set_option linter.unusedSimpArgs false

theorem RecR.pta {w : World} {base n c : Nat} {A : Option Addr} {L : List (List UInt8)} (h : RecR w base (.slice A n c) L) : PtA w A L := fun j hj => by
  obtain ⟨vs, h1, h2, h3⟩ := h
  have hlt := World.ownsRow.lt h1
  rcases h1.2 with ⟨hv', h0'⟩ | ⟨g, cap, cur, hv', _⟩
  · omega
  · injection hv' with e1 e2 e3
    subst e1 e2 e3
    obtain ⟨a, c2, he, ho⟩ := h3 j hj
    have hc := World.ownsRow.cellAt h1 j (by omega)
    exact ⟨g, 0, a, c2, rfl, by rw [Nat.zero_add, hc, he], ho.rd.1, (hlt g rfl).2⟩
theorem slice_both (A : Option Addr) (n c i k : Nat) (h1 : i ≤ k) (h2 : k ≤ c) (W : World) :
    (Instr.slice 39 (.slice A n c) (some (.int .i64 (i : Int))) (some (.int .i64 (k : Int))) none).run Try.prog W = .ok (.slice (if c = i then A else A.map (·.add i)) (k - i) (c - i)) W := by
  have he2 : Try.prog.elem 39 = 5 := by kernel_rfl
  rw [run_slice_lh W 39 A n c (by rw [he2]; exact Try.underlying39) .i64 .i64 i k (by omega) (by omega) (by omega)]
  have hs : (sizeOf (Try.prog.elem 39)).run Try.prog W = .ok 1 W := by
    rw [he2]
    obtain ⟨i, hi, hz, hsize, hby⟩ := info_parts info8
    simp [sizeOf, typeInfo, hi, hsize]
  rw [hs]
  simp only [Result.andThen, sliced, Int.toNat_natCast, Nat.mul_one]
end Go.Proofs.Ytdlciehboimciaa

namespace Go.Proofs.Ytdlciehboimciaa
set_option maxRecDepth 100000
open Go.RowKit
set_option linter.unusedVariables false
set_option linter.unusedSimpArgs false

section
variable {b0 : Nat} {w : World} {p q n : Nat} {s : DkX}
/-- The bytes that the last head ends. -/
def bytesX (n : Nat) (s : DkX) : List UInt8 := ((appl s.F s.R).flatten.drop (firstS n (headX n s).2.1 * 64)).take (headX n s).2.2
set_option maxRecDepth 100000 in
set_option maxHeartbeats 4000000 in
theorem lopen_yes (hd : DkJ b0 w p q n s) (hoff : s.off = false) (h4 : 4 ≤ n) (h9 : n ≤ 8192) (hx0 : (headX n s).1 ≠ 0) (hsz : (allB (recsV (bytesX n s))).length ≤ 1000000) :
    Calls Try.prog 21 #[.pointer (some ⟨p, 0, none⟩)] w fun e w' => ∃ g A k c, e = .returned (.tuple #[.pointer (some ⟨g, 0, none⟩), .slice A k c, .int .i64 0]) ∧ (recsV (bytesX n s)).length = k ∧ w.heap.size ≤ g ∧ RecR w' w.heap.size (.slice A k c) (recsV (bytesX n s)) ∧ LgB w' g p (headX n s).1 (headX n s).2.1 (allB (recsV (bytesX n s))).length false ∧ Below w.heap.size w w' := by
  have cs := dsize_yes hd
  have ci := dimage_any hd
  have hS64 : ∀ D ∈ appl s.F s.R, D.length = 64 := by
    obtain ⟨v, hv⟩ := hd
    exact hv.app64
  have hSn : (appl s.F s.R).length = n := by
    obtain ⟨v, hv⟩ := hd
    rw [appl_len]
    exact hv.hF
  have HD := hidg_ hd
  have HS := hidg_ hS64
  have HSN := hidg_ hSn
  have hfl := flat_len hS64
  rw [hSn] at hfl
  have hrg := lastK_range (roomN n) (appl s.F s.R) 2
  have hx : lastK (roomN n) (appl s.F s.R) 2 = headX n s := rfl
  rw [hx] at hrg
  have hbx : bytesX n s = ((appl s.F s.R).flatten.drop (firstS n (headX n s).2.1 * 64)).take (headX n s).2.2 := rfl
  generalize bytesX n s = bs at *
  generalize headX n s = x at *
  have d1 : decide ((n : Int) < 4) = false := decide_eq_false (by omega)
  have d2 : ((x.1 : Int) == 0) = false := by simp; omega
  obtain ⟨N, hN⟩ : ∃ N, n * 64 = N := ⟨_, rfl⟩
  rw [hN] at ci hfl
  obtain ⟨fs, hfs⟩ : ∃ f, firstS n x.2.1 = f := ⟨_, rfl⟩
  have hfs6 : fs * 64 + roomN n ≤ N := by
    rw [← hfs, ← hN]
    unfold firstS roomN
    have h2 : x.2.1 * secsA n ≤ 1 * secsA n := Nat.mul_le_mul hrg.2.1 (Nat.le_refl _)
    have h3 : 2 + 2 * secsA n ≤ n := by unfold secsA; omega
    omega
  obtain ⟨be, hbe⟩ : ∃ b, fs * 64 = b := ⟨_, rfl⟩
  obtain ⟨en, hen⟩ : ∃ e, be + x.2.2 = e := ⟨_, rfl⟩
  have hw1 : IntKind.i64.wrap ((fs : Int) * 64) = (be : Int) := by rw [IntWalk.i64_in _ (by omega)]; omega
  have hw2 : IntKind.i64.wrap ((be : Int) + (x.2.2 : Int)) = (en : Int) := by rw [IntWalk.i64_in _ (by omega)]; omega
  rw [hfs, hbe] at hbx
  have HBX := hidg_ hbx
  have HN := hidg_ hN
  have H4 := hidg_ h4
  have HSZ := hidg_ hsz
  have HEN := hidg_ (show be + x.2.2 = en ∧ en ≤ N ∧ x.2.2 ≤ 1000000 from ⟨hen, by omega, by omega⟩)
  have HFL := hidg_ hfl
  have HZ := zeroHd
  have CF := hidg_ (fun W => firstSec_any n h4 h9 W x.2.1 hrg.2.1)
  rw [hfs] at CF
  have HOF := hidg_ hoff
  clear hd hS64 hSn hfl hbx hN h4 hsz hen hfs6 hfs hbe hrg hoff hx0
  go_enter Try.func21, Try.ntmps21
  go_upto_region 9 with (first
    | (go_at_call 29; ((with_reducible refine cs.mono ?_); clear cs; rintro e w' ⟨rfl, rfl⟩))
    | (go_at_call 16; ((with_reducible refine ci.mono ?_); clear ci; rintro e w1 ⟨A, c, rfl, hO1, hB1⟩; have O1 := hidg_ hO1; have B1 := hidg_ hB1; clear hO1 hB1))
    | (go_at_call 30; have cl := lastHead_any w1 w.heap.size N n c A (appl s.F s.R) HN.out.symm HSN.out HS.out H4.out h9 O1.out; rw [hx] at cl; ((with_reducible refine cl.mono ?_); clear cl; rintro e w2 ⟨rfl, hB2⟩; have O2 := hidg_ (O1.out.below hB2 (Nat.le_refl _)); have X2 := hidg_ (B1.out.trans (hB2.mono B1.out.size)); clear hB2))
    | (refine wpList_put_row rfl 69 (.tmp 6) (.tmp 15) rfl w2.heap.size (hdRow x) rfl rfl 69 #[.int .i64 0, .int .i64 0, .int .i64 0] (Bk.new w2 _ _) (iHd _) rfl (hdRow_one _) ?_; intro w3 k3 g3 s3; have K3 := hidg_ k3; have k3c := (hdRow_cells k3).1; have X3 := hidg_ ((X2.out.trans ((Below.refl w2.heap.size w2).alloc (Nat.le_refl _) (.cells #[.int .i64 0, .int .i64 0, .int .i64 0] 69) |>.mono X2.out.size)).grown g3 (by have := X2.out.size; simp; omega) (fun k e => by injection e with e; have := X2.out.size; omega)); have O3 := hidg_ ((O2.out.alloc (.cells #[.int .i64 0, .int .i64 0, .int .i64 0] 69)).kept g3 (by cases hv : (Value.slice A N c).ownBlock with | none => exact .inl rfl | some b => exact .inr (fun e => by injection e with e; have := (World.ownsRow.lt O2.out b hv).2; omega))); clear k3 g3 s3)
    | (go_at_call 24; have cf := doff_yes (DkI.below HD.out X3.out); rw [HOF.out] at cf; ((with_reducible refine cf.mono ?_); clear cf; rintro e w' ⟨rfl, rfl⟩)))
  obtain ⟨g6, hg6⟩ : ∃ g, w2.heap.size = g := ⟨_, rfl⟩
  rw [hg6] at K3 ⊢
  have QS := hidg_ (fun W (hW : Below w3.heap.size w3 W) => (dsize_yes (DkI.below HD.out (X3.out.trans (hW.mono X3.out.size)))).mono fun e w' hh => (show e = .returned (.int .i64 (n : Int)) ∧ Below w3.heap.size w3 w' from ⟨hh.1, hh.2 ▸ hW⟩))
  have QA := hidg_ (fun W (hW : Below w3.heap.size w3 W) => (hdRow_cells (K3.out.below hW K3.out.lt)).2.1)
  have QF := hidg_ (fun W (hW : Below w3.heap.size w3 W) => (CF.out W).mono fun e w' hh => (show e = .returned (.int .i64 (fs : Int)) ∧ Below w3.heap.size w3 w' from ⟨hh.1, hh.2 ▸ hW⟩))
  have HG6 := hidg_ (show w.heap.size ≤ g6 by rw [← hg6]; exact X2.out.size)
  clear hg6 k3c
  refine region_quiet_in (C := fun W => Below w3.heap.size w3 W) (by kernel_rfl) (by kernel_rfl) ((Below.refl _ _).drew) ?_
  (go_big_quiet_want; (refine BigFrame.quiet_move _ rfl ?_; go_simp); go_big_quiet_on)
  (go_big_quiet_want; (refine quiet_call (.int .i64 (n : Int)) 29 #[.pointer (some ⟨p, 0, none⟩)] ?_ QS.out ?_; (focus (intro W; go_simp; done)); go_simp); go_big_quiet_on)
  (go_big_quiet_want; (refine quiet_run (.pointer (some ⟨g6, 1, none⟩)) ?_ ?_; (focus (intro W hW; go_simp; done)); go_simp); go_big_quiet_on)
  (go_big_quiet_want; (refine quiet_run (.int .i64 (x.2.1 : Int)) ?_ ?_; (focus (intro W hW; have h := QA.out W hW; go_simp; done)); go_simp); go_big_quiet_on)
  (go_big_quiet_want; (refine quiet_call (.int .i64 (fs : Int)) 44 #[.int .i64 (n : Int), .int .i64 (x.2.1 : Int)] ?_ QF.out ?_; (focus (intro W; go_simp; done)); go_simp); go_big_quiet_on)
  (go_big_quiet_want; (refine quiet_run (.int .i64 (be : Int)) ?_ ?_; (focus (intro W hW; go_simp; done)); go_simp); go_big_quiet_on)
  (go_big_quiet_want; (refine BigFrame.quiet_assign _ rfl ?_; go_simp); go_big_quiet_on)
  refine wpQuiet_nil ?_
  intro w4 hw4
  have h34 : Below w3.heap.size w3 w4 := hw4
  clear hw4 QS QA QF
  have K4 := hidg_ (K3.out.below h34 K3.out.lt)
  have O4 := hidg_ (O3.out.below h34 (Nat.le_refl _))
  have X4 := hidg_ (X3.out.trans (h34.mono X3.out.size))
  have k4 := (hdRow_cells K4.out).2.2
  have hcap := O4.out.cap
  have s2 := fun W => slice_both A N c be en (by have := HEN.out; omega) (by have := HEN.out; omega) W
  have hR := (rd_from O4.out.rd.1 c be (by rw [HFL.out]; have := HEN.out; omega) (by rw [HFL.out]; exact hcap.1)).take x.2.2
  rw [← HBX.out] at hR
  rw [show en - be = x.2.2 by have := HEN.out; omega] at s2
  generalize (if c = be then A else A.map (·.add be)) = A7 at s2 hR
  have HBL : bs.length = x.2.2 := by rw [HBX.out, List.length_take, List.length_drop, HFL.out]; have := HEN.out; omega
  have cr := recordsOf_any w4 A7 x.2.2 (c - be) bs HBL hR HEN.out.2.2
  clear h34 hR hcap HBL K3 O3 O2 O1
  go_wp2_with (first
    | (go_at_call 45; ((with_reducible refine cr.mono ?_); clear cr; rintro e w5 ⟨A5, k5, c5, rfl, hk5, hR5, hB5⟩; have R5 := hidg_ hR5; have HK5 := hidg_ hk5; have K5 := hidg_ (K4.out.below hB5 K4.out.lt); have k5c := K5.out.cell 2; have k5f := K5.out.frozen 2; have X5 := hidg_ (X4.out.trans (hB5.mono X4.out.size)); have R6 := hidg_ (hR5.at_ (w' := w5) fun _ _ _ => rfl); have HB45 := hidg_ hB5.size; clear hk5 hR5 hB5))
    | (go_at_call 36; have cz := sizeOf_any w5 A5 k5 c5 (recsV bs) HK5.out R5.out.pta HSZ.out; ((with_reducible refine cz.mono ?_); clear cz; rintro e w' ⟨rfl, rfl⟩))
    | (refine wpList_load_sub rfl 69 (.tmp 6) rfl g6 0 rfl #[.int .i64 (x.1 : Int), .int .i64 (x.2.1 : Int), .int .i64 ((allB (recsV bs)).length : Int)] (fun j hj => by rw [Nat.zero_add]; exact (K5.out.set_ 2 (.int .i64 ((allB (recsV bs)).length : Int))).cell j) _ Try.underlying69 rfl (iHd (x.1, x.2.1, (allB (recsV bs)).length)) ?_))
  go_ret3
  have hg4 : g6 < w4.heap.size := K4.out.lt
  have hsz5 : w4.heap.size ≤ w5.heap.size := by
    obtain ⟨_, _, _, _⟩ := R5.out
    have := X5.out.size
    exact HB45.out
  have hRec : RecR ((w5.setCell ⟨g6, 2, none⟩ (.int .i64 ((allB (recsV bs)).length : Int))).alloc (.cells #[.pointer (some ⟨p, 0, none⟩), .int .i64 (x.1 : Int), .int .i64 (x.2.1 : Int), .int .i64 ((allB (recsV bs)).length : Int), .bool false] 72)) w4.heap.size (.slice A5 k5 c5) (recsV bs) := R5.out.at_ fun k hk hlt => by
    rw [Below.heap_alloc _ _ k (by simpa using hlt)]
    exact Below.heap_setCell w5 ⟨g6, 2, none⟩ _ k (by show k ≠ g6; omega)
  have hL := Bk.new (w5.setCell ⟨g6, 2, none⟩ (.int .i64 ((allB (recsV bs)).length : Int))) 72 #[.pointer (some ⟨p, 0, none⟩), .int .i64 (x.1 : Int), .int .i64 (x.2.1 : Int), .int .i64 ((allB (recsV bs)).length : Int), .bool false]
  simp only [World.size_setCell] at hL
  obtain ⟨vs, r1, r2, r3⟩ := hRec
  have hlo := X4.out.size
  exact ⟨w5.heap.size, A5, k5, c5, rfl, HK5.out, X5.out.size, ⟨vs, World.ownsRow.mono r1 hlo, r2, fun j hj => by obtain ⟨A9, c9, e9, o9⟩ := r3 j hj; exact ⟨A9, c9, e9, World.ownsRow.mono o9 hlo⟩⟩, hL, (X5.out.trans ((Below.refl w.heap.size w5).setCell (p := ⟨g6, 2, none⟩) HG6.out _)).trans ((Below.refl _ _).alloc (by simp; exact X5.out.size) _)⟩
end
end Go.Proofs.Ytdlciehboimciaa
