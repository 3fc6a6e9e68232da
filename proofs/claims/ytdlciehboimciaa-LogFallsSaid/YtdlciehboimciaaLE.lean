/-
  Merged: Lge Lgf Lgg.
-/
import Derived.Test.YtdlciehboimciaaLA
import Derived.Test.YtdlciehboimciaaDD
namespace Go.Proofs.Ytdlciehboimciaa
set_option maxRecDepth 100000
open Go.RowKit
set_option linter.unusedVariables false
set_option linter.unusedSimpArgs false

theorem outZ (w : World) : OutF (w.alloc (.cells #[.pointer none, .int .i64 0, .bool false] 95)) w.heap.size [] false [w.heap.size] :=
  ⟨by simp, .pointer none, Bk.new w _ _, .inl ⟨rfl, rfl⟩⟩
set_option maxRecDepth 100000 in
set_option maxHeartbeats 2000000 in
theorem recBytes_any (A : Option Addr) (n c : Nat) (l : List UInt8) (w : World) (hn : l.length = n) (hr : Rd w w.heap.size A l) (hm : n ≤ 1000000) :
    Calls Try.prog 37 #[.slice A n c] w (NewP w (n + 8) (recB l)) := by
  have HB1 := hidg_ ((Below.refl w.heap.size w).alloc (Nat.le_refl _) (.cells #[.pointer none, .int .i64 0, .bool false] 95))
  have HN := hidg_ hn
  have hr2 : RdF (w.alloc (.cells #[.pointer none, .int .i64 0, .bool false] 95)) [w.heap.size] A l := (hr.below HB1.out).rdf (by simp) (fun k hk => by simp at hk; omega)
  have c1 := bytes_any _ w.heap.size [] false [w.heap.size] A n c l (outZ w) hr2 hn (by simp; omega)
  have HL := hidg_ (show (([] : List UInt8) ++ highB 4 n ++ l).length = n + 4 by simp [highB_len, hn]; omega)
  clear hr hr2 hn
  go_enter Try.func37, Try.ntmps37
  go_wp2_with (first
    | (go_at_call 53; ((with_reducible refine c1.mono ?_); clear c1; rintro e w2 ⟨rfl, F2, hO2, hG2, hU2⟩; have O2 := hidg_ hO2; have G2 := hidg_ hG2; have U2 := hidg_ hU2; clear hO2 hG2 hU2))
    | (go_at_call 54; have cp := done_any w2 w.heap.size (n + 4) _ false F2 O2.out HL.out (by omega); ((with_reducible refine cp.mono ?_); clear cp; rintro e w3 ⟨A3, c3, rfl, hO3, hB3⟩; have O3 := hidg_ hO3; have B3 := hidg_ hB3; clear hO3 hB3))
    | (go_at_call 55; have cp := close_any A3 (n + 4) c3 _ w3 HL.out O3.out.rd.1 (by omega); ((with_reducible refine cp.mono ?_); clear cp; rintro e w4 ⟨A4, c4, rfl, hO4, hB4⟩; have O4 := hidg_ hO4; have B4 := hidg_ hB4; clear hO4 hB4)))
  go_ret
  have x1 := HB1.out
  have x2 := U2.out.below (B := w.heap.size) (fun k hk => by simp at hk; omega) (by simp)
  have y2 := x1.trans x2
  have y3 := y2.trans (B3.out.mono (B' := w.heap.size) y2.size)
  have y4 := y3.trans (B4.out.mono (B' := w.heap.size) y3.size)
  have hl : closeB ([] ++ highB 4 n ++ l) = recB l := by rw [recB, HN.out]; rfl
  rw [hl] at O4
  exact ⟨A4, c4, rfl, World.ownsRow.mono O4.out y3.size, y4⟩
end Go.Proofs.Ytdlciehboimciaa

namespace Go.Proofs.Ytdlciehboimciaa
set_option maxRecDepth 100000
open Go.RowKit
set_option linter.unusedVariables false
set_option linter.unusedSimpArgs false

/-- The operations ix come one behind the other; S m: what holds when m of them are done. -/
def ChJ (ix : List Nat) (S : Nat → World → Prop) (D : Nat → Bool) (W : World) : Prop := ∃ m, m ≤ ix.length ∧ (∀ i, (hi : i < ix.length) → D ix[i] = decide (i < m)) ∧ S m W
section
variable {ix : List Nat} {S : Nat → World → Prop} {D : Nat → Bool} {W W' : World}
theorem ChJ.same (h : ChJ ix S D W) (i : Nat) (hi : i ∉ ix) : ChJ ix S (fun j => decide (j = i) || D j) W := by
  obtain ⟨m, h1, h2, h3⟩ := h
  refine ⟨m, h1, fun k hk => ?_, h3⟩
  have hne : ix[k] ≠ i := fun e => hi (e ▸ List.getElem_mem hk)
  show (decide (ix[k] = i) || D ix[k]) = decide (k < m)
  rw [decide_eq_false hne, Bool.false_or]
  exact h2 k hk
/-- The k-th of them is done now. -/
theorem ChJ.at_ (h : ChJ ix S D W) (k : Nat) (hk : k < ix.length) (hL : D ix[k] = false) (hW : ∀ j, (hj : j < ix.length) → j + 1 = k → D ix[j] = true) : S k W ∧ ∀ i, (hi : i < ix.length) → D ix[i] = decide (i < k) := by
  obtain ⟨m, h1, h2, h3⟩ := h
  have e1 := h2 k hk
  rw [hL] at e1
  have e2 : ¬ k < m := by
    intro hlt
    rw [decide_eq_true hlt] at e1
    cases e1
  have e3 : m = k := by
    rcases Nat.eq_zero_or_pos k with h0 | h0
    · omega
    · have e4 := h2 (k - 1) (by omega)
      rw [hW (k - 1) (by omega) (by omega)] at e4
      have e5 : k - 1 < m := by
        by_cases h5 : k - 1 < m
        · exact h5
        · rw [decide_eq_false h5] at e4; cases e4
      omega
  subst e3
  exact ⟨h3, h2⟩
theorem ChJ.next (k : Nat) (hk : k < ix.length) (hn : ix.Nodup) (hd : ∀ i, (hi : i < ix.length) → D ix[i] = decide (i < k)) (hS : S (k + 1) W') : ChJ ix S (fun j => decide (j = ix[k]) || D j) W' := by
  refine ⟨k + 1, hk, fun i hi => ?_, hS⟩
  by_cases e : i = k
  · subst e
    show (decide (ix[i] = ix[i]) || D ix[i]) = decide (i < i + 1)
    rw [decide_eq_true rfl, Bool.true_or]
    exact (decide_eq_true (by omega)).symm
  · have hne : ix[i] ≠ ix[k] := fun e2 => e ((List.getElem_inj hn).1 e2)
    show (decide (ix[i] = ix[k]) || D ix[i]) = decide (i < k + 1)
    rw [decide_eq_false hne, Bool.false_or, hd i hi, decide_eq_decide]
    omega
theorem ChJ.start (h : S 0 W) : ChJ ix S (fun _ => false) W := ⟨0, Nat.zero_le _, fun i hi => by simp, h⟩
theorem ChJ.last (h : ChJ ix S D W) (k : Nat) (hk : k < ix.length) (hl : k + 1 = ix.length) (hD : D ix[k] = true) : S (k + 1) W := by
  obtain ⟨m, h1, h2, h3⟩ := h
  have e1 := h2 k hk
  rw [hD] at e1
  have : m = k + 1 := by
    by_cases h5 : k < m
    · omega
    · rw [decide_eq_false h5] at e1; cases e1
  rw [← this]
  exact h3
end
/-! headOf. -/
theorem zeroHd (W : World) : (zeroValue 69).run Try.prog W = .ok (.agg #[.int .i64 0, .int .i64 0, .int .i64 0]) W := by kernel_rfl
theorem InF.below {w w' : World} {g : Nat} {l : List UInt8} {err : Int} {F : List Nat} (h : InF w g l err F) (hb : Below w.heap.size w w') : InF w' g l err F := h.apart (G := []) (.of_below hb) fun _ _ => by simp
theorem iHd (x : Nat × Nat × Nat) : (Try.prog.info? 69).map (·.size) = some (hdRow x).size := by
  show _ = some 3
  kernel_rfl
theorem hdRow_one (x : Nat × Nat × Nat) : (hdRow x).all (·.oneCell') = true := by simp [hdRow, Value.oneCell']
/-- An In, and a head beside it that is being filled. -/
structure HdS (w W : World) (gi g1 g4 : Nat) (F : List Nat) (l : List UInt8) (err : Int) (cs : Array Value) : Prop where
  i : InF W gi l err F
  b4 : Bk W g4 69 cs
  b1 : Bk W g1 69 #[.int .i64 0, .int .i64 0, .int .i64 0]
  be : Below w.heap.size w W
  n1 : w.heap.size ≤ g1
  n4 : w.heap.size ≤ g4
  nF : ∀ k ∈ F, w.heap.size ≤ k ∧ k ≠ g1 ∧ k ≠ g4
  ne : g1 ≠ g4
section
variable {w W W' : World} {gi g1 g4 : Nat} {F : List Nat} {l l' : List UInt8} {err err' : Int} {cs : Array Value}
theorem HdS.num (h : HdS w W gi g1 g4 F l err cs) (hp : InF W' gi l' err' F) (hu : Untouched [gi] W W') : HdS w W' gi g1 g4 F l' err' cs := by
  obtain ⟨e1, e2, e3⟩ := h.nF gi h.i.1
  exact ⟨hp, h.b4.untouched hu (by simp; omega), h.b1.untouched hu (by simp; omega), h.be.trans (hu.below (fun k hk => by rw [List.mem_singleton.1 hk]; exact e1) h.be.size), h.n1, h.n4, h.nF, h.ne⟩
theorem HdS.put (h : HdS w W gi g1 g4 F l err cs) (i : Nat) (u : Value) : HdS w (W.setCell ⟨g4, i, none⟩ u) gi g1 g4 F l err (cs.setIfInBounds i u) := by
  have hu : Untouched [g4] W (W.setCell ⟨g4, i, none⟩ u) := Untouched.set g4 i (by simp) _
  exact ⟨h.i.apart hu fun k hk => by simp; exact (h.nF k hk).2.2, h.b4.set_ i u, h.b1.untouched hu (by simp; exact h.ne), h.be.trans (hu.below (fun k hk => by rw [List.mem_singleton.1 hk]; exact h.n4) h.be.size), h.n1, h.n4, h.nF, h.ne⟩
end
theorem num_val {f : FuncId} {args : Array Value} {W : World} {gi size : Nat} {most : Int} {l l' : List UInt8} {err err' : Int} {F : List Nat} (h : Calls Try.prog f args W (NumP W gi size most l err F)) (x : Int) (e : numS size most l err = (x, l', err')) :
    Calls Try.prog f args W (fun e w' => e = .returned (.int .i64 x) ∧ InF w' gi l' err' F ∧ Untouched [gi] W w') := h.mono fun r w' hh => by
  unfold NumP at hh
  rw [e] at hh
  exact hh
theorem head_start (w2 w w4 : World) (gi g1 g4 : Nat) (F : List Nat) (D : List UInt8) {l : List UInt8} {err : Int} {w3 : World} (hi : InF w4 gi l err F) (hF : ∀ k ∈ F, w2.heap.size ≤ k ∧ k < w3.heap.size) (hr : Bk w2 g1 69 #[.int .i64 0, .int .i64 0, .int .i64 0]) (hx : Below w.heap.size w w2) (n1 : w.heap.size ≤ g1)
    (h3 : w3.heap.size ≤ w4.heap.size) (hb : Below w2.heap.size w2 w4) (hg : w4.heap.size = g4) : HdS w (w4.alloc (.cells #[.int .i64 0, .int .i64 0, .int .i64 0] 69)) gi g1 g4 F l err #[.int .i64 0, .int .i64 0, .int .i64 0] := by
  have hlt := hr.lt
  have hs := hb.size
  have hxs := hx.size
  have ha : Below w4.heap.size w4 (w4.alloc (.cells #[.int .i64 0, .int .i64 0, .int .i64 0] 69)) := (Below.refl _ _).alloc (Nat.le_refl _) _
  have h1 := hr.below hb hlt
  refine ⟨hi.below ha, by rw [← hg]; exact Bk.new w4 _ _, h1.below ha h1.lt, (hx.trans (hb.mono hxs)).trans (ha.mono (by omega)), n1, by omega, fun k hk => ?_, by omega⟩
  have := hF k hk
  omega
set_option maxRecDepth 100000 in
set_option maxHeartbeats 4000000 in
theorem headOf_any (w : World) (D : List UInt8) (hD : D.length = 64) (room : Nat) (hr : room ≤ 1000000) :
    Calls Try.prog 49 #[.agg (rowOf D), .int .i64 (room : Int)] w fun e w' => e = .returned (.agg (hdRow (hdT D, hdA D, hdC room D))) ∧ Below w.heap.size w w' := by
  obtain ⟨g0, hg0⟩ : ∃ g, w.heap.size = g := ⟨_, rfl⟩
  obtain ⟨w1, hw1⟩ : ∃ W, w.alloc (.cells (rowOf D) 58) = W := ⟨_, rfl⟩
  have B1 : Below w.heap.size w w1 := by rw [← hw1]; exact (Below.refl _ _).alloc (Nat.le_refl _) _
  have K1 : Bk w1 g0 58 (rowOf D) := by rw [← hw1, ← hg0]; exact Bk.new w _ _
  obtain ⟨g1, hg1⟩ : ∃ g, w1.heap.size = g := ⟨_, rfl⟩
  obtain ⟨w2, hw2⟩ : ∃ W, w1.alloc (.cells #[.int .i64 0, .int .i64 0, .int .i64 0] 69) = W := ⟨_, rfl⟩
  have B2 : Below w1.heap.size w1 w2 := by rw [← hw2]; exact (Below.refl _ _).alloc (Nat.le_refl _) _
  have R2 := hidg_ (show Bk w2 g1 69 #[.int .i64 0, .int .i64 0, .int .i64 0] by rw [← hw2, ← hg1]; exact Bk.new w1 _ _)
  have K2 := K1.below B2 K1.lt
  have X2 := hidg_ (B1.trans (B2.mono B1.size))
  have N1 := hidg_ (show w.heap.size ≤ g1 by rw [← hg1]; exact B1.size)
  have hz := zeroHd
  have sl := slice_allS g0
  have HD := hidg_ hD
  have co := of_any w2 (some ⟨g0, 0, none⟩) 64 64 D hD (fun _ => ⟨g0, 0, rfl, K2.lt, fun j hj => by rw [Nat.zero_add]; exact (K2.cell j).trans (rowOf_at D j hj)⟩) (by omega)
  have ET := hidg_ (hdT_eq D)
  have EA := hidg_ (hdA_eq D)
  have EC := hidg_ (hdC_eq room D)
  clear K1 K2 B1 B2 hD
  go_enter Try.func49, Try.ntmps49
  go_wp2_with (first
    | (go_at_call 60; ((with_reducible refine co.mono ?_); clear co; rintro e w3 ⟨gi, F, rfl, hI3, hF3, hB3⟩; have I3 := hidg_ hI3; have F3 := hidg_ hF3; have B3 := hidg_ hB3; clear hI3 hF3 hB3))
    | (go_at_call 66; have cp := insmall_any w3 gi 108 D 0 F I3.out (by omega) (by omega); ((with_reducible refine cp.mono ?_); clear cp; rintro e w4 ⟨rfl, hI4, hU4⟩; have B4 := hidg_ (B3.out.trans (hU4.below (fun k hk => by rw [List.mem_singleton.1 hk]; exact (F3.out gi I3.out.1).1) B3.out.size)); have I4 := hidg_ hI4; have z4 := hU4.size; clear I3 hI4 hU4; obtain ⟨g4, hg4⟩ : ∃ g, w4.heap.size = g := ⟨_, rfl⟩; have S5 := hidg_ (head_start w2 w w4 gi g1 g4 F D I4.out F3.out R2.out X2.out N1.out z4 B4.out hg4); clear I4 F3 R2 X2 N1 B3 B4 z4))
    | (go_at_call 67; have cp := num_val (innum_any _ gi 9223372036854775807 _ _ F S5.out.i (by omega) (by omega)) (hdT D : Int) (l' := (hd2 D).2.1) (err' := (hd2 D).2.2) (Prod.ext ET.out.1 rfl); ((with_reducible refine cp.mono ?_); clear cp; rintro e w6 ⟨rfl, hI6, hU6⟩; have S6 := hidg_ (S5.out.num hI6 hU6); have f6 := S6.out.b4.frozen 0; have k6 := S6.out.b4.cell 0; have S7 := hidg_ (S6.out.put 0 (.int .i64 (hdT D : Int))); clear S5 hI6 hU6))
    | (go_at_call 66; have cp := num_val (insmall_any _ gi 1 _ _ F S7.out.i (by omega) (by omega)) (hdA D : Int) (l' := (hd3 D).2.1) (err' := (hd3 D).2.2) (Prod.ext EA.out.1 rfl); ((with_reducible refine cp.mono ?_); clear cp; rintro e w8 ⟨rfl, hI8, hU8⟩; have S8 := hidg_ (S7.out.num hI8 hU8); have f8 := S8.out.b4.frozen 1; have k8 := S8.out.b4.cell 1; have S9 := hidg_ (S8.out.put 1 (.int .i64 (hdA D : Int))); clear S7 hI8 hU8))
    | (go_at_call 67; have cp := num_val (innum_any _ gi (room : Int) _ _ F S9.out.i (by omega) (by omega)) (hdC room D : Int) (l' := (hd4 room D).2.1) (err' := (hd4 room D).2.2) (Prod.ext EC.out.1 rfl); ((with_reducible refine cp.mono ?_); clear cp; rintro e wa ⟨rfl, hIa, hUa⟩; have Sa := hidg_ (S9.out.num hIa hUa); have fa := Sa.out.b4.frozen 2; have ka := Sa.out.b4.cell 2; have Sb := hidg_ (Sa.out.put 2 (.int .i64 (hdC room D : Int))); have KB := hidg_ (show Bk (wa.setCell ⟨g4, 2, none⟩ (.int .i64 (hdC room D : Int))) g4 69 (hdRow (hdT D, hdA D, hdC room D)) from Sb.out.b4); clear S9 hIa hUa))
    | (refine wpList_load_sub rfl 69 (.tmp 6) rfl g4 0 rfl (hdRow (hdT D, hdA D, hdC room D)) (fun j hj => by rw [Nat.zero_add]; exact KB.out.cell j) _ Try.underlying69 rfl (iHd _) ?_)
    | (refine wpList_put_row rfl 69 (.tmp 4) (.tmp 21) rfl g1 (hdRow (hdT D, hdA D, hdC room D)) rfl rfl 69 #[.int .i64 0, .int .i64 0, .int .i64 0] Sb.out.b1 (iHd _) rfl (hdRow_one _) ?_; intro w9 k9 g9 s9; have K9 := hidg_ k9; have G9 := hidg_ g9; clear k9 g9 s9))
  exact bodyPost_ret (results_cellK Try.results49 _ _ g1 rfl (run_loadVar_row _ _ _ _ _ (0, 0) _ K9.out Try.underlying69 rfl (iHd _))) rfl ⟨rfl, Sb.out.be.grown G9.out Sb.out.be.size (fun k e => by injection e with e; have := Sb.out.n1; omega)⟩
end Go.Proofs.Ytdlciehboimciaa

namespace Go.Proofs.Ytdlciehboimciaa
set_option maxRecDepth 100000
open Go.RowKit
set_option linter.unusedVariables false
set_option linter.unusedSimpArgs false

/-- New memory that holds l, while the Out behind g has put eighteen bytes. -/
def FinW (b g : Nat) (P : List UInt8) (v : Value) (w : World) : Prop := Own8 w b v P ∧ w.cell? ⟨g, 1, none⟩ = some (.int .i64 18)
theorem FinW.no {b g : Nat} {P l : List UInt8} {v : Value} {W : World} {F : List Nat} (hO : OutF W g l false F) (hl : l.length ≠ 18) (h : FinW b g P v W) : False := by
  obtain ⟨_, all, hb, _⟩ := hO
  have h1 := hb.cell 1
  rw [h.2] at h1
  simp at h1
  omega
theorem FinW.early {b g : Nat} {P : List UInt8} {v : Value} {W : World} (hP : P.length = 18) (hs : W.heap.size = b) (h : FinW b g P v W) : False := by
  obtain ⟨A, c, rfl, hr, hbd⟩ := h.1.form
  obtain ⟨k, off, rfl, _, _⟩ := hr (by omega)
  have := hbd k rfl
  omega
def seL (t a c : Nat) : List (List UInt8) := [[], [108], [108] ++ highB 8 t, [108] ++ highB 8 t ++ [UInt8.ofNat a], headP t a c]
def SeS (b g t a c : Nat) : Nat → World → Prop
  | 0, W => W.heap.size = b
  | 6, _ => True
  | m + 1, W => ∃ F, (∀ k ∈ F, b ≤ k) ∧ OutF W g ((seL t a c).getD m []) false F
def SeR (gH g b t a c : Nat) : Nat → Value → World → Prop
  | 0, v, _ => v = .pointer (some ⟨g, 0, none⟩)
  | 1, v, _ => v = .pointer (some ⟨g, 0, none⟩)
  | 2, v, _ => v = .pointer (some ⟨gH, 0, none⟩)
  | 3, v, _ => v = .int .i64 (t : Int)
  | 4, v, _ => v = .pointer (some ⟨g, 0, none⟩)
  | 5, v, _ => v = .pointer (some ⟨gH, 1, none⟩)
  | 6, v, _ => v = .int .i64 (a : Int)
  | 7, v, _ => v = .pointer (some ⟨g, 0, none⟩)
  | 8, v, _ => v = .pointer (some ⟨gH, 2, none⟩)
  | 9, v, _ => v = .int .i64 (c : Int)
  | 10, v, _ => v = .pointer (some ⟨g, 0, none⟩)
  | 11, v, w => ∃ A c9, v = .tuple #[.slice A 18 c9, .int .i64 0] ∧ FinW b g (headP t a c) (.slice A 18 c9) w
  | 12, v, w => ∃ A c9, v = .tuple #[.slice A 18 c9, .int .i64 0] ∧ FinW b g (headP t a c) (.slice A 18 c9) w
  | 13, v, w => ∃ A c9, v = .slice A 18 c9 ∧ FinW b g (headP t a c) (.slice A 18 c9) w
  | 14, v, _ => v = .int .i64 0
  | 15, v, w => ∃ A c9, v = .slice A 18 c9 ∧ FinW b g (headP t a c) (.slice A 18 c9) w
  | 16, v, _ => v = .int .i64 0
  | _, _, _ => True
theorem SeR.keep {gH g b t a c j : Nat} {v : Value} {W W' : World} (hT : ∀ v, FinW b g (headP t a c) v W → FinW b g (headP t a c) v W') (hh : SeR gH g b t a c j v W) : SeR gH g b t a c j v W' := by
  unfold SeR at hh ⊢
  split at hh <;> first
    | (obtain ⟨A, cc, e, hF⟩ := hh; exact ⟨A, cc, e, hT _ hF⟩)
    | exact hh
    | trivial
def SfR (s5 b : Nat) (A : Option Addr) (c9 : Nat) (Q : List UInt8) : Nat → Value → World → Prop
  | 0, v, _ => v = .slice (some ⟨s5, 0, none⟩) 64 64
  | 1, v, _ => v = .slice A 18 c9
  | 2, v, w => ∃ A2 c2, v = .slice A2 22 c2 ∧ Own8 w b (.slice A2 22 c2) Q
  | 3, v, _ => v = .int .i64 22
  | _, _, _ => True
theorem SfR.keep {s5 b : Nat} {A : Option Addr} {c9 : Nat} {Q : List UInt8} {j : Nat} {v : Value} {W W' : World} (hT : ∀ v, Own8 W b v Q → Own8 W' b v Q) (hh : SfR s5 b A c9 Q j v W) : SfR s5 b A c9 Q j v W' := by
  unfold SfR at hh ⊢
  split at hh <;> first
    | (obtain ⟨A2, c2, e, hF⟩ := hh; exact ⟨A2, c2, e, hT _ hF⟩)
    | exact hh
    | trivial
/-- A sector that the fourth operation fills. -/
def SeJ (s5 : Nat) (Y : List UInt8) (D : Nat → Bool) (W : World) : Prop := Bk W s5 58 (if D 3 = true then rowOf Y else rowOf zsec)
section
variable {s5 : Nat} {Y : List UInt8} {D : Nat → Bool} {W W' : World}
theorem SeJ.same (h : SeJ s5 Y D W) (i : Nat) (hi : 3 ≠ i) : SeJ s5 Y (fun j => decide (j = i) || D j) W := by
  unfold SeJ
  show Bk W s5 _ (if (decide (3 = i) || D 3) = true then _ else _)
  rw [orf_ne hi]
  exact h
theorem SeJ.below (h : SeJ s5 Y D W) (hb : Below W.heap.size W W') : SeJ s5 Y D W' := by
  have h1 : Bk W s5 _ _ := h
  exact h1.below hb h1.lt
theorem SeJ.old (h : SeJ s5 Y D W) (hD : D 3 = false) : Bk W s5 58 (rowOf zsec) := by
  unfold SeJ at h
  rw [hD] at h
  exact h
theorem SeJ.new (h : SeJ s5 Y D W) (hD : D 3 = true) : Bk W s5 58 (rowOf Y) := by
  unfold SeJ at h
  rw [hD] at h
  exact h
theorem SeJ.done (h : Bk W s5 58 (rowOf Y)) : SeJ s5 Y (fun j => decide (j = 3) || D j) W := by
  unfold SeJ
  show Bk W s5 _ (if (decide (3 = 3) || D 3) = true then _ else _)
  rw [orf_eq]
  exact h
end
theorem hdRow_cells {W : World} {g : Nat} {x : Nat × Nat × Nat} (h : Bk W g 69 (hdRow x)) : W.cell? ⟨g, 0, none⟩ = some (.int .i64 (x.1 : Int)) ∧ W.cell? ⟨g, 1, none⟩ = some (.int .i64 (x.2.1 : Int)) ∧ W.cell? ⟨g, 2, none⟩ = some (.int .i64 (x.2.2 : Int)) :=
  ⟨h.cell 0, h.cell 1, h.cell 2⟩
theorem headB_row (t a c : Nat) : ((rowOf zsec).toList.take 0 ++ (rowOf (closeB (headP t a c))).toList ++ (rowOf zsec).toList.drop (0 + (rowOf (closeB (headP t a c))).toList.length)).toArray = rowOf (headB t a c) := by
  have h1 : (rowOf (closeB (headP t a c))).toList.length = 22 := by rw [Array.length_toList, rowOf_size, closeB_len, headP_len]
  have h2 : (rowOf zsec).toList.drop (0 + 22) = (rowOf z42).toList := by
    simp [rowOf, zsec, z42]
  rw [h1, h2, List.take_zero, List.nil_append]
  simp [rowOf, headB]
set_option maxRecDepth 100000 in
set_option maxHeartbeats 8000000 in
theorem headSec_any (w : World) (t a c : Nat) (ht : t ≤ 9223372036854775807) (ha : a ≤ 1) (hc : c ≤ 1000000) :
    Calls Try.prog 50 #[.agg (hdRow (t, a, c))] w fun e w' => e = .returned (.agg (rowOf (headB t a c))) ∧ Below w.heap.size w w' := by
  obtain ⟨gH, hgH⟩ : ∃ g, w.heap.size = g := ⟨_, rfl⟩
  obtain ⟨w1, hw1⟩ : ∃ W, w.alloc (.cells (hdRow (t, a, c)) 69) = W := ⟨_, rfl⟩
  have B1 : Below w.heap.size w w1 := by rw [← hw1]; exact (Below.refl _ _).alloc (Nat.le_refl _) _
  have K1 : Bk w1 gH 69 (hdRow (t, a, c)) := by rw [← hw1, ← hgH]; exact Bk.new w _ _
  obtain ⟨gR, hgR⟩ : ∃ g, w1.heap.size = g := ⟨_, rfl⟩
  obtain ⟨w2, hw2⟩ : ∃ W, w1.alloc (.cells (rowOf zsec) 58) = W := ⟨_, rfl⟩
  have B2 : Below w1.heap.size w1 w2 := by rw [← hw2]; exact (Below.refl _ _).alloc (Nat.le_refl _) _
  have R2 := hidg_ (show Bk w2 gR 58 (rowOf zsec) by rw [← hw2, ← hgR]; exact Bk.new w1 _ _)
  have K2 := hidg_ (K1.below B2 K1.lt)
  have X2 := hidg_ (B1.trans (B2.mono B1.size))
  have NR := hidg_ (show w.heap.size ≤ gR by rw [← hgR]; exact B1.size)
  have LK := hidg_ (show ∀ W, Below w2.heap.size w2 W → W.cell? ⟨gH, 0, none⟩ = some (.int .i64 (t : Int)) ∧ W.cell? ⟨gH, 1, none⟩ = some (.int .i64 (a : Int)) ∧ W.cell? ⟨gH, 2, none⟩ = some (.int .i64 (c : Int)) from fun W hW => hdRow_cells (K2.out.below hW K2.out.lt))
  obtain ⟨g, hg⟩ : ∃ g, w2.heap.size = g := ⟨_, rfl⟩
  have HG := hidg_ hg
  have hzS := zeroSec
  have HT := hidg_ ht
  have HA := hidg_ ha
  have HCc := hidg_ hc
  have LB := hidg_ (show ∀ m, ((seL t a c).getD m []).length ≤ 18 from fun m => by
    rcases m with _ | _ | _ | _ | _ | m
    all_goals simp only [seL, headP, List.getD_cons_zero, List.getD_cons_succ, List.getD_nil, List.length_append, List.length_nil, List.length_cons, highB_len]
    all_goals omega)
  clear B1 B2 K1 ht ha hc
  go_enter Try.func50, Try.ntmps50
  go_upto_region 1 with fail
  rename_i K9 hK9
  clear hw1 hw2 hgH hgR hg
  refine region_byJF [7, 8, 9, 10, 11, 12, 13, 14, 15, 16, 17, 18, 6, 19, 20, 3, 4] (fun W => Below w2.heap.size w2 W) (fun W W2 => ∀ v, FinW w2.heap.size g (headP t a c) v W → FinW w2.heap.size g (headP t a c) v W2) (SeR gH g w2.heap.size t a c) (fun D _ W => ChJ [0, 1, 4, 7, 10, 11] (SeS w2.heap.size g t a c) D W) (by kernel_rfl) (by kernel_rfl) (by kernel_rfl) (by kernel_rfl) (fun j v w w' hT hr => ?_) (fun j v w hlt hj _ => ?_) ((Below.refl _ _).drew) ?_ (ChJ.start rfl) ?_
  · exact SeR.keep hT hr
  · rcases j with _ | _ | _ | _ | _ | _ | _ | _ | _ | _ | _ | _ | _ | _ | _ | _ | _ | j
    all_goals first
      | (exfalso; simp [dstOf] at hj; done)
      | trivial
  · refine ⟨fun D a9 W hC hd hsz hf hv hJ hL hW K hK => ?_, fun D a9 W hC hd hsz hf hv hJ hL hW K hK => ?_, fun D a9 W hC hd hsz hf hv hJ hL hW K hK => ?_, fun D a9 W hC hd hsz hf hv hJ hL hW K hK => ?_, fun D a9 W hC hd hsz hf hv hJ hL hW K hK => ?_, fun D a9 W hC hd hsz hf hv hJ hL hW K hK => ?_, fun D a9 W hC hd hsz hf hv hJ hL hW K hK => ?_, fun D a9 W hC hd hsz hf hv hJ hL hW K hK => ?_, fun D a9 W hC hd hsz hf hv hJ hL hW K hK => ?_, fun D a9 W hC hd hsz hf hv hJ hL hW K hK => ?_, fun D a9 W hC hd hsz hf hv hJ hL hW K hK => ?_, fun D a9 W hC hd hsz hf hv hJ hL hW K hK => ?_, fun D a9 W hC hd hsz hf hv hJ hL hW K hK => ?_, fun D a9 W hC hd hsz hf hv hJ hL hW K hK => ?_, fun D a9 W hC hd hsz hf hv hJ hL hW K hK => ?_, fun D a9 W hC hd hsz hf hv hJ hL hW K hK => ?_, fun D a9 W hC hd hsz hf hv hJ hL hW K hK => ?_, trivial⟩
    · clear hsz
      obtain ⟨hS, hd⟩ := hJ.at_ 0 (by decide) hL (fun j hj e => by omega)
      have hS2 : W.heap.size = w2.heap.size := hS
      have hgW : W.heap.size = g := hS2.trans HG.out
      have hzO : (zeroValue 95).run Try.prog W = .ok (.agg #[.pointer none, .int .i64 0, .bool false]) W := by kernel_rfl
      have hb : Below W.heap.size W (W.alloc (.cells #[.pointer none, .int .i64 0, .bool false] 95)) := (Below.refl _ _).alloc (Nat.le_refl _) _
      have hO := outZ W
      rw [hgW] at hO
      refine step_run (wanted_none rfl) (v := .pointer (some ⟨g, 0, none⟩)) (w' := W.alloc (.cells #[.pointer none, .int .i64 0, .bool false] 95)) ?_ (hK _ _ (hC.trans (hb.mono hC.size)) (fun v hh => (FinW.early (headP_len _ _ _) hS2 hh).elim) rfl (ChJ.next 0 (by decide) (by decide) hd ⟨[g], fun k hk => by rw [List.mem_singleton.1 hk, HG.out]; exact Nat.le_refl _, hO⟩))
      rw [← hgW]
      go_simp
    · clear hsz
      have e1 := slot_of (a := a9) (s := 7) (v := .pointer (some ⟨g, 0, none⟩)) (hv 0 (by kernel_rfl))
      obtain ⟨⟨F, hFb, hO⟩, hd⟩ := hJ.at_ 1 (by decide) hL (fun j hj e => by have hj0 : j = 0 := (by omega); subst hj0; exact hW 0 (by kernel_rfl))
      have cc : Calls Try.prog 68 #[.pointer (some ⟨g, 0, none⟩), .int .i64 108] W (OutP W g ((seL t a c).getD 1 []) false F) := small_any W g [] false F 108 hO (by omega) (by simp)
      have hno : ((seL t a c).getD 0 []).length ≠ 18 := by simp [seL, highB_len]
      refine step_callx 68 #[.pointer (some ⟨g, 0, none⟩), .int .i64 108] (wanted_none rfl) (w' := W) ?_ (cc.mono fun e W2 hh => ?_)
      · go_simp
      · obtain ⟨rfl, F2, hO2, hGr, hU⟩ := hh
        have hF2 : ∀ k ∈ F2, w2.heap.size ≤ k := fun k hk => (hGr k hk).elim (hFb k) (fun h => Nat.le_trans hC.size h)
        exact ⟨_, rfl, hK _ _ (hC.trans (hU.below hFb hC.size)) (fun v hh => (FinW.no hO hno hh).elim) rfl (ChJ.next 1 (by decide) (by decide) hd ⟨F2, hF2, hO2⟩)⟩
    · clear hsz
      have e1 := slot_of (a := a9) (s := 1) (v := .pointer (some ⟨gH, 0, none⟩)) (hf 1 (by kernel_rfl))
      refine step_run (wanted_none rfl) (v := .pointer (some ⟨gH, 0, none⟩)) (w' := W) ?_ (hK _ _ hC (fun v hh => hh) rfl (hJ.same 2 (by decide)))
      go_simp
    · clear hsz
      have e1 := slot_of (a := a9) (s := 9) (v := .pointer (some ⟨gH, 0, none⟩)) (hv 2 (by kernel_rfl))
      obtain ⟨k0, k1, k2⟩ := LK.out W hC
      refine step_run (wanted_none rfl) (v := .int .i64 (t : Int)) (w' := W) ?_ (hK _ _ hC (fun v hh => hh) rfl (hJ.same 3 (by decide)))
      go_simp
    · clear hsz
      have e1 := slot_of (a := a9) (s := 8) (v := .pointer (some ⟨g, 0, none⟩)) (hv 1 (by kernel_rfl))
      have e2 := slot_of (a := a9) (s := 10) (v := .int .i64 (t : Int)) (hv 3 (by kernel_rfl))
      obtain ⟨⟨F, hFb, hO⟩, hd⟩ := hJ.at_ 2 (by decide) hL (fun j hj e => by have hj0 : j = 1 := (by omega); subst hj0; exact hW 1 (by kernel_rfl))
      have cc : Calls Try.prog 69 #[.pointer (some ⟨g, 0, none⟩), .int .i64 (t : Int)] W (OutP W g ((seL t a c).getD 2 []) false F) := num_any W g ((seL t a c).getD 1 []) false F t hO HT.out (by have := LB.out 1; omega)
      have hno : ((seL t a c).getD 1 []).length ≠ 18 := by simp [seL, highB_len]
      refine step_callx 69 #[.pointer (some ⟨g, 0, none⟩), .int .i64 (t : Int)] (wanted_none rfl) (w' := W) ?_ (cc.mono fun e W2 hh => ?_)
      · go_simp
      · obtain ⟨rfl, F2, hO2, hGr, hU⟩ := hh
        have hF2 : ∀ k ∈ F2, w2.heap.size ≤ k := fun k hk => (hGr k hk).elim (hFb k) (fun h => Nat.le_trans hC.size h)
        exact ⟨_, rfl, hK _ _ (hC.trans (hU.below hFb hC.size)) (fun v hh => (FinW.no hO hno hh).elim) rfl (ChJ.next 2 (by decide) (by decide) hd ⟨F2, hF2, hO2⟩)⟩
    · clear hsz
      have e1 := slot_of (a := a9) (s := 1) (v := .pointer (some ⟨gH, 0, none⟩)) (hf 1 (by kernel_rfl))
      refine step_run (wanted_none rfl) (v := .pointer (some ⟨gH, 1, none⟩)) (w' := W) ?_ (hK _ _ hC (fun v hh => hh) rfl (hJ.same 5 (by decide)))
      go_simp
    · clear hsz
      have e1 := slot_of (a := a9) (s := 12) (v := .pointer (some ⟨gH, 1, none⟩)) (hv 5 (by kernel_rfl))
      obtain ⟨k0, k1, k2⟩ := LK.out W hC
      refine step_run (wanted_none rfl) (v := .int .i64 (a : Int)) (w' := W) ?_ (hK _ _ hC (fun v hh => hh) rfl (hJ.same 6 (by decide)))
      go_simp
    · clear hsz
      have e1 := slot_of (a := a9) (s := 11) (v := .pointer (some ⟨g, 0, none⟩)) (hv 4 (by kernel_rfl))
      have e2 := slot_of (a := a9) (s := 13) (v := .int .i64 (a : Int)) (hv 6 (by kernel_rfl))
      obtain ⟨⟨F, hFb, hO⟩, hd⟩ := hJ.at_ 3 (by decide) hL (fun j hj e => by have hj0 : j = 2 := (by omega); subst hj0; exact hW 4 (by kernel_rfl))
      have cc : Calls Try.prog 68 #[.pointer (some ⟨g, 0, none⟩), .int .i64 (a : Int)] W (OutP W g ((seL t a c).getD 3 []) false F) := small_any W g ((seL t a c).getD 2 []) false F a hO (by have := HA.out; omega) (by have := LB.out 2; omega)
      have hno : ((seL t a c).getD 2 []).length ≠ 18 := by simp [seL, highB_len]
      refine step_callx 68 #[.pointer (some ⟨g, 0, none⟩), .int .i64 (a : Int)] (wanted_none rfl) (w' := W) ?_ (cc.mono fun e W2 hh => ?_)
      · go_simp
      · obtain ⟨rfl, F2, hO2, hGr, hU⟩ := hh
        have hF2 : ∀ k ∈ F2, w2.heap.size ≤ k := fun k hk => (hGr k hk).elim (hFb k) (fun h => Nat.le_trans hC.size h)
        exact ⟨_, rfl, hK _ _ (hC.trans (hU.below hFb hC.size)) (fun v hh => (FinW.no hO hno hh).elim) rfl (ChJ.next 3 (by decide) (by decide) hd ⟨F2, hF2, hO2⟩)⟩
    · clear hsz
      have e1 := slot_of (a := a9) (s := 1) (v := .pointer (some ⟨gH, 0, none⟩)) (hf 1 (by kernel_rfl))
      refine step_run (wanted_none rfl) (v := .pointer (some ⟨gH, 2, none⟩)) (w' := W) ?_ (hK _ _ hC (fun v hh => hh) rfl (hJ.same 8 (by decide)))
      go_simp
    · clear hsz
      have e1 := slot_of (a := a9) (s := 15) (v := .pointer (some ⟨gH, 2, none⟩)) (hv 8 (by kernel_rfl))
      obtain ⟨k0, k1, k2⟩ := LK.out W hC
      refine step_run (wanted_none rfl) (v := .int .i64 (c : Int)) (w' := W) ?_ (hK _ _ hC (fun v hh => hh) rfl (hJ.same 9 (by decide)))
      go_simp
    · clear hsz
      have e1 := slot_of (a := a9) (s := 14) (v := .pointer (some ⟨g, 0, none⟩)) (hv 7 (by kernel_rfl))
      have e2 := slot_of (a := a9) (s := 16) (v := .int .i64 (c : Int)) (hv 9 (by kernel_rfl))
      obtain ⟨⟨F, hFb, hO⟩, hd⟩ := hJ.at_ 4 (by decide) hL (fun j hj e => by have hj0 : j = 3 := (by omega); subst hj0; exact hW 7 (by kernel_rfl))
      have cc : Calls Try.prog 69 #[.pointer (some ⟨g, 0, none⟩), .int .i64 (c : Int)] W (OutP W g ((seL t a c).getD 4 []) false F) := num_any W g ((seL t a c).getD 3 []) false F c hO (by have := HCc.out; omega) (by have := LB.out 3; omega)
      have hno : ((seL t a c).getD 3 []).length ≠ 18 := by simp [seL, highB_len]
      refine step_callx 69 #[.pointer (some ⟨g, 0, none⟩), .int .i64 (c : Int)] (wanted_none rfl) (w' := W) ?_ (cc.mono fun e W2 hh => ?_)
      · go_simp
      · obtain ⟨rfl, F2, hO2, hGr, hU⟩ := hh
        have hF2 : ∀ k ∈ F2, w2.heap.size ≤ k := fun k hk => (hGr k hk).elim (hFb k) (fun h => Nat.le_trans hC.size h)
        exact ⟨_, rfl, hK _ _ (hC.trans (hU.below hFb hC.size)) (fun v hh => (FinW.no hO hno hh).elim) rfl (ChJ.next 4 (by decide) (by decide) hd ⟨F2, hF2, hO2⟩)⟩
    · clear hsz
      have e1 := slot_of (a := a9) (s := 17) (v := .pointer (some ⟨g, 0, none⟩)) (hv 10 (by kernel_rfl))
      obtain ⟨⟨F, hFb, hO⟩, hd⟩ := hJ.at_ 5 (by decide) hL (fun j hj e => by have hj0 : j = 4 := (by omega); subst hj0; exact hW 10 (by kernel_rfl))
      have cc := done_any W g 18 (headP t a c) false F hO (headP_len _ _ _) (by omega)
      refine step_callx 54 #[.pointer (some ⟨g, 0, none⟩)] (wanted_none rfl) (w' := W) ?_ (cc.mono fun e W2 hh => ?_)
      · go_simp
      · obtain ⟨A, c9, rfl, hO2, hB2⟩ := hh
        have hlt : g < W.heap.size := by obtain ⟨_, all, hb, _⟩ := hO; exact hb.lt
        have hO5 : OutF W g (headP t a c) false F := hO
        have h18 : W.cell? ⟨g, 1, none⟩ = some (.int .i64 18) := by obtain ⟨_, all, hb, _⟩ := hO5; have h1 := hb.cell 1; rw [headP_len] at h1; exact h1
        have hk2 := (hB2.cell (p := ⟨g, 1, none⟩) hlt).trans h18
        exact ⟨_, rfl, hK _ _ (hC.trans (hB2.mono hC.size)) (fun v hh => ⟨hh.1.below hB2 (Nat.le_refl _), hk2⟩) ⟨A, c9, rfl, World.ownsRow.mono hO2 hC.size, hk2⟩ (ChJ.next 5 (by decide) (by decide) hd trivial)⟩
    · clear hsz
      obtain ⟨A, c9, e0, hF⟩ := hv 11 (by kernel_rfl)
      have e1 := slot_of (a := a9) (s := 18) (v := .tuple #[.slice A 18 c9, .int .i64 0]) e0
      refine step_run (wanted_none rfl) (v := .tuple #[.slice A 18 c9, .int .i64 0]) (w' := W) ?_ (hK _ _ hC (fun v hh => hh) ⟨A, c9, rfl, hF⟩ (hJ.same 12 (by decide)))
      go_simp
    · clear hsz
      obtain ⟨A, c9, e0, hF⟩ := hv 12 (by kernel_rfl)
      have e1 := slot_of (a := a9) (s := 6) (v := .tuple #[.slice A 18 c9, .int .i64 0]) e0
      refine step_run (wanted_none rfl) (v := .slice A 18 c9) (w' := W) ?_ (hK _ _ hC (fun v hh => hh) ⟨A, c9, rfl, hF⟩ (hJ.same 13 (by decide)))
      go_simp
    · clear hsz
      obtain ⟨A, c9, e0, hF⟩ := hv 12 (by kernel_rfl)
      have e1 := slot_of (a := a9) (s := 6) (v := .tuple #[.slice A 18 c9, .int .i64 0]) e0
      refine step_run (wanted_none rfl) (v := .int .i64 0) (w' := W) ?_ (hK _ _ hC (fun v hh => hh) rfl (hJ.same 14 (by decide)))
      go_simp
    · clear hsz
      obtain ⟨A, c9, e0, hF⟩ := hv 13 (by kernel_rfl)
      have e1 := slot_of (a := a9) (s := 19) (v := .slice A 18 c9) e0
      refine step_run (wanted_none rfl) (v := .slice A 18 c9) (w' := W) ?_ (hK _ _ hC (fun v hh => hh) ⟨A, c9, rfl, hF⟩ (hJ.same 15 (by decide)))
      go_simp
    · clear hsz
      have e1 := slot_of (a := a9) (s := 20) (v := .int .i64 0) (hv 14 (by kernel_rfl))
      refine step_run (wanted_none rfl) (v := .int .i64 0) (w' := W) ?_ (hK _ _ hC (fun v hh => hh) rfl (hJ.same 16 (by decide)))
      go_simp
  · intro f w7 hC7 hv7 D7 hD7 hJ7
    obtain ⟨A, c9, e3, hF⟩ := hv7 15 (by decide)
    have e4 : f 4 = .int .i64 0 := hv7 16 (by decide)
    have e3b : f 3 = .slice A 18 c9 := e3
    have HF := hidg_ hF.1
    have HC := hidg_ hC7
    simp only [framed, List.foldl_cons, List.foldl_nil, List.setIfInBounds_toArray, List.set_cons_succ, List.set_cons_zero]
    rw [e4, e3b]
    clear hv7 hD7 hJ7 hF hC7 e4 e3 e3b
    refine hK9 _ _ ?_
    go_upto_region 3 with fail
    rename_i K8 hK8
    obtain ⟨s5, hs5⟩ : ∃ s, w7.heap.size = s := ⟨_, rfl⟩
    obtain ⟨w8, hw8⟩ : ∃ W, w7.alloc (.cells (rowOf zsec) 58) = W := ⟨_, rfl⟩
    have HW8 := hidg_ hw8
    have HS5 := hidg_ hs5
    have HS8 := hidg_ (show w8.heap.size = s5 + 1 by rw [← hw8, ← hs5]; simp)
    have K8s := hidg_ (show Bk w8 s5 58 (rowOf zsec) by rw [← hw8, ← hs5]; exact Bk.new w7 _ _)
    have HF8 := hidg_ (show Own8 w8 w2.heap.size (.slice A 18 c9) (headP t a c) by rw [← hw8]; exact HF.out.alloc _)
    rw [hw8, hs5]
    clear hw8 hs5
    refine region_byJF [21, 22, 23, 24] (fun W => Below s5 w8 W) (fun W W2 => ∀ v, Own8 W w8.heap.size v (closeB (headP t a c)) → Own8 W2 w8.heap.size v (closeB (headP t a c))) (SfR s5 w8.heap.size A c9 (closeB (headP t a c))) (fun D _ W => SeJ s5 (headB t a c) D W) (by kernel_rfl) (by kernel_rfl) (by kernel_rfl) (by kernel_rfl) (fun j v w w' hT hr => ?_) (fun j v w hlt hj _ => ?_) ((Below.refl s5 w8).drew) ?_ K8s.out.drew ?_
    · exact SfR.keep hT hr
    · rcases j with _ | _ | _ | _ | j
      all_goals first
        | (exfalso; simp [dstOf] at hj; done)
        | trivial
    · refine ⟨fun D a9 W hC hd hsz hf hv hJ hL hW K hK => ?_, fun D a9 W hC hd hsz hf hv hJ hL hW K hK => ?_, fun D a9 W hC hd hsz hf hv hJ hL hW K hK => ?_, fun D a9 W hC hd hsz hf hv hJ hL hW K hK => ?_, trivial⟩
      · clear hsz
        have e1 := slot_of (a := a9) (s := 5) (v := .pointer (some ⟨s5, 0, none⟩)) (hf 5 (by kernel_rfl))
        have sl := slice_allS s5
        refine step_run (wanted_none rfl) (v := .slice (some ⟨s5, 0, none⟩) 64 64) (w' := W) ?_ (hK _ _ hC (fun v hh => hh) rfl (hJ.same 0 (by decide)))
        go_simp
      · clear hsz
        have e1 := slot_of (a := a9) (s := 3) (v := .slice A 18 c9) (hf 3 (by kernel_rfl))
        refine step_run (wanted_none rfl) (v := .slice A 18 c9) (w' := W) ?_ (hK _ _ hC (fun v hh => hh) rfl (hJ.same 1 (by decide)))
        go_simp
      · clear hsz
        have e1 := slot_of (a := a9) (s := 22) (v := .slice A 18 c9) (hv 1 (by kernel_rfl))
        have hFW : Own8 W w2.heap.size (.slice A 18 c9) (headP t a c) := ownsRow_heapk HF8.out fun k hk => hC.block k (by have := (World.ownsRow.lt HF.out k hk).2; have := HS5.out; omega)
        have cc := close_any A 18 c9 (headP t a c) W (headP_len _ _ _) hFW.rd.1 (by omega)
        refine step_callx 55 #[.slice A 18 c9] (wanted_none rfl) (w' := W) ?_ (cc.mono fun e W2 hh => ?_)
        · go_simp
        · obtain ⟨A2, c2, rfl, hO2, hB2⟩ := hh
          exact ⟨_, rfl, hK _ _ (hC.trans (hB2.mono (by have := hC.size; have := HS8.out; omega))) (fun v hh => hh.below hB2 (Nat.le_refl _)) ⟨A2, c2, rfl, World.ownsRow.mono hO2 hC.size⟩ ((hJ.same 2 (by decide)).below hB2)⟩
      · clear hsz
        obtain ⟨A2, c2, e0, hO⟩ := hv 2 (by kernel_rfl)
        have hJ' := hJ.old hL
        refine step_copy8 rfl (.tmp 21) (.tmp 23) rfl s5 0 64 64 (eval_of (hv 0 (by kernel_rfl))) A2 22 c2 (eval_of e0) (closeB (headP t a c)) 22 (by rw [closeB_len, headP_len]) (by omega) rfl W.heap.size (hO.rd.1.rdn (Nat.le_refl _) (Nat.le_refl _)) 58 (rowOf zsec) hJ' (by rw [rowOf_size, zsec_len]; omega) ?_
        intro W1 k1 g1 s1
        rw [headB_row] at k1
        have hb1 : Below s5 W W1 := (Below.refl s5 W).grown g1 (by have := hC.size; have := HS8.out; omega) (fun k e => by injection e with e; omega)
        exact hK _ _ (hC.trans hb1) (fun v hh => ownsRow_heapk hh fun k hk => g1.block k (World.ownsRow.lt hh k hk).2 (fun e => by injection e with e; have := (World.ownsRow.lt hh k hk).1; have := HS5.out; have := HS8.out; omega)) rfl (SeJ.done k1)
    · intro f wa hCa hva Da hDa hJa
      obtain ⟨aa, hJ, _⟩ := hJa
      have KS := hidg_ (show Bk wa s5 58 (rowOf (headB t a c)) from hJ.new (hDa 3 (by decide)))
      have HCa := hidg_ hCa
      simp only [framed, List.foldl_cons, List.foldl_nil, List.setIfInBounds_toArray, List.set_cons_succ, List.set_cons_zero]
      clear hva hDa hJ hCa
      refine hK8 _ _ ?_
      have R7 := R2.out.below HC.out R2.out.lt
      have R8 := R7.alloc (.cells (rowOf zsec) 58)
      rw [HW8.out] at R8
      have Ra := hidg_ (R8.below HCa.out (by have := R7.lt; have := HS5.out; omega))
      have B78 := (Below.refl w7.heap.size w7).alloc (Nat.le_refl _) (.cells (rowOf zsec) 58)
      rw [HW8.out] at B78
      have y7 := X2.out.trans (HC.out.mono X2.out.size)
      have y8 := y7.trans (B78.mono y7.size)
      have YA := hidg_ (y8.trans (HCa.out.mono (by have := y7.size; have := HS5.out; omega)))
      clear R7 R8 B78 y7 y8
      go_wp2_with (first
        | (refine wpList_load_sub rfl 58 (.tmp 5) rfl s5 0 rfl (rowOf (headB t a c)) (fun j hj => by rw [Nat.zero_add]; exact KS.out.cell j) _ Try.underlying58 rfl (iSec _ (headB_len _ _ _)) ?_)
        | (refine wpList_put_row rfl 58 (.tmp 2) (.tmp 25) rfl gR (rowOf (headB t a c)) rfl rfl 58 (rowOf zsec) Ra.out (iSec _ (headB_len _ _ _)) (by rw [rowOf_size, rowOf_size, headB_len, zsec_len]) (bytes_one _) ?_; intro w9 k9 g9 s9; have K9b := hidg_ k9; have G9 := hidg_ g9; clear k9 g9 s9))
      exact bodyPost_ret (results_cellK Try.results50 _ _ gR rfl (run_loadVar_row _ _ _ _ _ (0, 0) _ K9b.out Try.underlying58 rfl (iSec _ (headB_len _ _ _)))) rfl ⟨rfl, YA.out.grown G9.out YA.out.size (fun k e => by injection e with e; have := NR.out; omega)⟩
end Go.Proofs.Ytdlciehboimciaa
