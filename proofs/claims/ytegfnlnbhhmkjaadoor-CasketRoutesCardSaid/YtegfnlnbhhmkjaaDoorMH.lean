/-
  Merged: Moh Moi Moj.
-/
import Derived.Test.YtegfnlnbhhmkjaaDoorMD
import Derived.Test.YtegfnlnbhhmkjaaDoorMC
namespace Go.Proofs.YtegfnlnbhhmkjaaDoor
set_option maxRecDepth 100000
open Go.RowKit
set_option linter.unusedVariables false
set_option linter.unusedSimpArgs false

theorem fixS_32 {l : List UInt8} {e : Int} {K r : List UInt8} {er : Int} (h : fixS 32 l e = (K, r, er)) : K = [] ∨ K.length = 32 := by
  unfold fixS at h
  split at h
  · injection h with h _; exact .inl h.symm
  · split at h
    · injection h with h _; exact .inl h.symm
    · injection h with h _
      refine .inr ?_
      rename_i _ h2
      rw [← h, List.length_take]
      have : (32 : Int).toNat = 32 := rfl
      rw [this]
      omega
theorem copy32 (K : List UInt8) (hK : K.length = 32) : ((rowOf (zbytes 32)).toList.take 0 ++ (rowOf K).toList ++ (rowOf (zbytes 32)).toList.drop (0 + (rowOf K).toList.length)).toArray = rowOf K := by
  rw [row_laid]
  unfold laid
  rw [hK, List.take_zero, List.nil_append, List.drop_eq_nil_of_le (by rw [zbytes_len]; omega), List.append_nil]
theorem step_copy0m {ops : Array Oper} {o : Oper} {a : Act} {w : World} {Q : Exit → Act → World → Prop} {K : Act → World → Prop} {E : Prop} (hgd : o.guard = none) (d x : Operand) (ho : o.op = .call { callee := .builtin .copy, args := #[d, x], argTypes := #[39, 39] })
    (dv : Option Addr) (dl dc : Nat) (hd : a.eval d = .slice dv dl dc) (A : Option Addr) (c : Nat) (hx : a.eval x = .slice A 0 c)
    (hK : K (a.put o.dst (.int .i64 0)) w) :
    if Region.wanted o (yielded ops a.tmps) = true then Oper.wp Tryd.prog o a w K Q else E := by
  have hw : Region.wanted o (yielded ops a.tmps) = true := by simp [Region.wanted, hgd]
  rw [if_pos hw]
  have hrun := run_copy_none (P := Tryd.prog) w 39 39 o.type 5 dv A dl dc 0 c Tryd.underlying39 (by kernel_rfl) (Nat.zero_min _)
  unfold Oper.wp execOp
  simp only [ho, resolve, invoke, builtin, Sem.run_bind, Sem.run_pure, Result.andThen_ok, List.map_toArray, List.map_cons, List.map_nil, hd, hx, hrun]
  exact hK
theorem results_cellM {P : Program} {fn : Func} {p : Tmp} {ty : TypeId} (h : fn.results = #[.cell p ty]) (tmps : Array Value) (w : World) (g : Nat) {v : Value}
    (hp : tmps.getD p undef = .pointer (some ⟨g, 0, none⟩)) (h1 : (loadVar ty ⟨g, 0, none⟩).run P w = .ok v w) :
    (results fn tmps).run P w = .ok v w := by
  have hp' : tmps[p]?.getD undef = .pointer (some ⟨g, 0, none⟩) := by simpa using hp
  simp [results, h, hp', asAddr, h1]
/-- What an item is taken to. -/
def ItP (w : World) (gi : Nat) (F : List Nat) (r : List UInt8 × Int) (V : Value → World → Prop) (e : Ending) (w' : World) : Prop :=
  ∃ v, e = .returned v ∧ V v w' ∧ InFc w' gi r.1 r.2 F ∧ Untouched [gi] w w'
def IN (gi : Nat) : Value := .agg #[.pointer (some ⟨gi, 0, none⟩)]
theorem InFc.lt {w : World} {gi : Nat} {l : List UInt8} {e : Int} {F : List Nat} (h : InFc w gi l e F) : gi ∈ F ∧ gi < w.heap.size := by
  obtain ⟨a, A, c, hb, _⟩ := h
  exact ⟨a, hb.lt⟩
set_option maxRecDepth 100000 in
set_option maxHeartbeats 2000000 in
theorem at_t (w : World) (gi : Nat) (l : List UInt8) (er : Int) (F : List Nat) (h : InFc w gi l er F) (hF : ∀ k ∈ F, k < w.heap.size) :
    Calls Tryd.prog 41 #[IN gi] w (ItP w gi F (atF l er).2 (fun v _ => v = .int .i64 (atF l er).1)) := by
  obtain ⟨w1, hw1⟩ : ∃ x, w.alloc (.cells #[.pointer (some ⟨gi, 0, none⟩)] 96) = x := ⟨_, rfl⟩
  have B1 := show Below w.heap.size w w1 by rw [← hw1]; exact (Below.refl _ _).alloc (Nat.le_refl _) _
  have HB := hidm_ B1
  have I1 := hidm_ (h.apart (G := []) (Untouched.of_below B1) (fun _ _ => by simp))
  have cn := innum_any w1 gi 255 l er F I1.out (by omega) (by omega)
  obtain ⟨v, l2, e2, hv⟩ : ∃ a b c, numS 8 255 l er = (a, b, c) := ⟨_, _, _, rfl⟩
  unfold NumP at cn
  rw [hv] at cn
  simp only at cn
  unfold atF IN
  rw [hv]
  have hcP : w1.cell? ⟨w.heap.size, 0, none⟩ = some (.pointer (some ⟨gi, 0, none⟩)) := (show Bk w1 w.heap.size 96 #[.pointer (some ⟨gi, 0, none⟩)] by rw [← hw1]; exact Bk.new w _ _).cell 0
  clear h hv
  go_enter Tryd.func41, Tryd.ntmps41
  go_wp2_with (go_at_call 37; ((with_reducible refine cn.mono ?_); clear cn; rintro e w2 ⟨rfl, h1, h2⟩; have H1 := hidm_ h1; have H2 := hidm_ h2; clear h1 h2))
  go_ret
  exact ⟨_, rfl, rfl, H1.out, (Untouched.of_below (F := [gi]) HB.out).trans (Grew.refl _ _) H2.out⟩
set_option maxRecDepth 100000 in
set_option maxHeartbeats 4000000 in
theorem fixed_t (w : World) (gi : Nat) (l : List UInt8) (er : Int) (F : List Nat) (h : InFc w gi l er F) (hF : ∀ k ∈ F, k < w.heap.size) (hm : l.length ≤ 140737488355328) :
    Calls Tryd.prog 39 #[IN gi] w (ItP w gi F (digF l er).2 (fun v _ => v = .agg (rowOf (pad32 (digF l er).1)))) := by
  obtain ⟨g, hg⟩ : ∃ g, w.heap.size = g := ⟨_, rfl⟩
  obtain ⟨w1, hw1⟩ : ∃ x, w.alloc (.cells #[.pointer (some ⟨gi, 0, none⟩)] 96) = x := ⟨_, rfl⟩
  obtain ⟨w2, hw2⟩ : ∃ x, w1.alloc (.cells (rowOf (zbytes 32)) 22) = x := ⟨_, rfl⟩
  obtain ⟨w3, hw3⟩ : ∃ x, w2.alloc (.cells (rowOf (zbytes 32)) 22) = x := ⟨_, rfl⟩
  have B1 := show Below w.heap.size w w1 by rw [← hw1]; exact (Below.refl _ _).alloc (Nat.le_refl _) _
  have S1 : w1.heap.size = g + 1 := by rw [← hw1, ← hg]; simp
  have B2 := show Below w1.heap.size w1 w2 by rw [← hw2]; exact (Below.refl _ _).alloc (Nat.le_refl _) _
  have S2 : w2.heap.size = g + 2 := by rw [← hw2]; simp [S1]
  have B3 := show Below w2.heap.size w2 w3 by rw [← hw3]; exact (Below.refl _ _).alloc (Nat.le_refl _) _
  have S3 : w3.heap.size = g + 3 := by rw [← hw3]; simp [S2]
  have P3 := hidm_ (show Bk w3 g 96 #[.pointer (some ⟨gi, 0, none⟩)] by
    have h0 : Bk w1 g 96 #[.pointer (some ⟨gi, 0, none⟩)] := by rw [← hw1, ← hg]; exact Bk.new w _ _
    exact (h0.below B2 h0.lt).below B3 (by omega))
  have R3 := hidm_ (show Bk w3 (g + 1) 22 (rowOf (zbytes 32)) by
    have h0 : Bk w2 (g + 1) 22 (rowOf (zbytes 32)) := by rw [← hw2, ← S1]; exact Bk.new w1 _ _
    exact h0.below B3 (by omega))
  have V3 := hidm_ (show Bk w3 (g + 2) 22 (rowOf (zbytes 32)) by rw [← hw3, ← S2]; exact Bk.new w2 _ _)
  have X3 := hidm_ (B1.trans ((B2.mono (by omega)).trans (B3.mono (by omega))))
  have HF := hidm_ (show ∀ k ∈ F, k < g from fun k hk => by have := hF k hk; omega)
  have I3 := h.apart (G := []) (Untouched.of_below X3.out) (fun _ _ => by simp)
  have I3d := hidm_ (I3.apart (G := []) (Untouched.drewN 1) (fun _ _ => by simp) : InFc w3.drew gi l er F)
  have HGI := hidm_ (HF.out gi I3.lt.1)
  have cf9 := infixed_any w3.drew gi 32 l er F I3d.out hm
  obtain ⟨K, l2, e2, hv⟩ : ∃ a b c, fixS 32 l er = (a, b, c) := ⟨_, _, _, rfl⟩
  have HK := fixS_32 hv
  unfold FixP at cf9
  rw [hv] at cf9
  simp only at cf9
  unfold digF IN
  rw [hv]
  have hz := z32m
  have sl := fun W => slice_all32m (g + 2) 0 W
  have i3 := hidm_ (fun (K : List UInt8) (h : K.length = 32) => i32m K h)
  have hcP := P3.out.cell 0
  have HG := hidm_ hg
  have HF2 := hidm_ HF.out
  clear h hF hv I3 B1 B2 B3
  go_enter Tryd.func39, Tryd.ntmps39
  go_upto_region 2 with fail
  clear hw1 hw2 hw3 S1 S2 hg hz
  rcases HK with rfl | hK
  · go_region_law (first
      | (refine step_copy0m rfl (.tmp 4) (.tmp 7) rfl (some ⟨g + 2, 0, none⟩) 32 32 rfl A8 c8 rfl ?_)
      | (go_simp; go_at_call 62; ((with_reducible refine cf9.mono ?_); clear cf9; rintro e w8 ⟨⟨A8, m8, c8, rfl, hm8, hO8⟩, hI8, hU8⟩; obtain rfl : m8 = 0 := hm8; have I8 := hidm_ hI8; have U8 := hidm_ hU8; clear hI8 hU8 hO8)))
    all_goals
      have V9 := V3.out.drewN 1 |>.untouched U8.out (by simp; have := HGI.out; omega)
      have R9 := R3.out.drewN 1 |>.untouched U8.out (by simp; have := HGI.out; omega)
      have U9 := hidm_ ((Untouched.of_below (F := [gi]) X3.out).trans (Grew.refl _ _) ((Untouched.drewN (F := [gi]) 1).trans (Grew.refl _ _) U8.out))
      have hi := i3.out (zbytes 32) (zbytes_len 32)
      have h1c := bytes_one (zbytes 32)
      clear V3 R3 P3 hcP
      go_wp2_with (first
        | (refine wpList_load_row rfl 22 (.tmp 3) rfl (g + 2) rfl 22 (rowOf (zbytes 32)) (0, 0) _ V9 Tryd.underlying22 rfl hi ?_)
        | (refine wpList_put_row rfl 22 (.tmp 2) (.tmp 9) rfl (g + 1) (rowOf (zbytes 32)) rfl rfl 22 (rowOf (zbytes 32)) R9 hi rfl h1c ?_; intro w9 k9 g9 s9))
      have hU : Untouched [gi] w w9 := ⟨g9.os.trans U9.out.os, g9.tape.trans U9.out.tape, g9.output.trans U9.out.output, Nat.le_trans U9.out.size g9.size, fun k hk hn => (g9.block k (Nat.lt_of_lt_of_le hk U9.out.size) (fun e => by injection e with e; have := HG.out; omega)).trans (U9.out.block k hk hn)⟩
      have I9 := I8.out.apart (G := [g + 1]) ⟨g9.os, g9.tape, g9.output, g9.size, fun b hb hne => g9.block b hb (fun e => by injection e with e; exact hne (by rw [e]; simp))⟩ (fun k hk => by simp; have := HF2.out k hk; omega)
      exact bodyPost_ret (results_cellM Tryd.results39 _ _ (g + 1) rfl (run_loadVar_row _ _ _ _ _ (0, 0) _ k9 Tryd.underlying22 rfl hi)) rfl ⟨_, rfl, rfl, I9, hU⟩
  · go_region_law (first
      | (refine step_copy8 rfl (.tmp 4) (.tmp 7) rfl (g + 2) 0 32 32 rfl A8 32 c8 rfl K 32 hK (by omega) rfl w8.heap.size (O8.out.rd.1.rdn (Nat.le_refl _) (Nat.le_refl _)) 22 (rowOf (zbytes 32)) V8.out (by rw [rowOf_size, zbytes_len]; omega) ?_; intro w9 k9 g9 s9; rw [copy32 K hK] at k9)
      | (go_simp; go_at_call 62; ((with_reducible refine cf9.mono ?_); clear cf9; rintro e w8 ⟨⟨A8, m8, c8, rfl, hm8, hO8⟩, hI8, hU8⟩; obtain rfl : m8 = 32 := hm8.trans hK; clear hm8; have I8 := hidm_ hI8; have U8 := hidm_ hU8; have O8 := hidm_ hO8; have V8 := hidm_ ((V3.out.drewN 1).untouched hU8 (by simp; have := HGI.out; omega)); clear hI8 hU8 hO8)))
    all_goals
      have hU9 : Untouched [g + 2] w8 w9 := ⟨g9.os, g9.tape, g9.output, g9.size, fun b hb hne => g9.block b hb (fun e => by injection e with e; exact hne (by rw [e]; simp))⟩
      have V9 := hidm_ k9
      have R9 := hidm_ (((R3.out.drewN 1).untouched U8.out (by simp; have := HGI.out; omega)).untouched hU9 (by simp))
      have UA := hidm_ ((Untouched.of_below (F := [gi]) X3.out).trans (Grew.refl _ _) ((Untouched.drewN (F := [gi]) 1).trans (Grew.refl _ _) U8.out))
      have I9 := hidm_ (I8.out.apart hU9 (fun k hk => by simp; have := HF2.out k hk; omega))
      have U9 := hidm_ (show Untouched [gi] w w9 from ⟨g9.os.trans UA.out.os, g9.tape.trans UA.out.tape, g9.output.trans UA.out.output, Nat.le_trans UA.out.size g9.size, fun k hk hn => (g9.block k (Nat.lt_of_lt_of_le hk UA.out.size) (fun e => by injection e with e; have := HG.out; omega)).trans (UA.out.block k hk hn)⟩)
      have hi := i3.out K hK
      have h1c := bytes_one K
      have hs0 : (rowOf (zbytes 32)).size = (rowOf K).size := by rw [rowOf_size, rowOf_size, zbytes_len, hK]
      have HKK := hidm_ hK
      clear V3 R3 P3 hcP k9 g9 s9 hU9 V8 O8 hK
      go_wp2_with (first
        | (refine wpList_load_row rfl 22 (.tmp 3) rfl (g + 2) rfl 22 (rowOf K) (0, 0) _ V9.out Tryd.underlying22 rfl hi ?_)
        | (refine wpList_put_row rfl 22 (.tmp 2) (.tmp 9) rfl (g + 1) (rowOf K) rfl rfl 22 (rowOf (zbytes 32)) R9.out hi hs0 h1c ?_; intro wA kA gA sA))
      have hU : Untouched [gi] w wA := ⟨gA.os.trans U9.out.os, gA.tape.trans U9.out.tape, gA.output.trans U9.out.output, Nat.le_trans U9.out.size gA.size, fun k hk hn => (gA.block k (Nat.lt_of_lt_of_le hk U9.out.size) (fun e => by injection e with e; have := HG.out; omega)).trans (U9.out.block k hk hn)⟩
      have IA := I9.out.apart (G := [g + 1]) ⟨gA.os, gA.tape, gA.output, gA.size, fun b hb hne => gA.block b hb (fun e => by injection e with e; exact hne (by rw [e]; simp))⟩ (fun k hk => by simp; have := HF2.out k hk; omega)
      exact bodyPost_ret (results_cellM Tryd.results39 _ _ (g + 1) rfl (run_loadVar_row _ _ _ _ _ (0, 0) _ kA Tryd.underlying22 rfl hi)) rfl ⟨_, rfl, by rw [pad32_id HKK.out], IA, hU⟩
end Go.Proofs.YtegfnlnbhhmkjaaDoor

namespace Go.Proofs.YtegfnlnbhhmkjaaDoor
set_option maxRecDepth 100000
open Go.RowKit
set_option linter.unusedVariables false
set_option linter.unusedSimpArgs false

def RtR (g gi m base : Nat) (K s : List UInt8) : Nat → Value → World → Prop
  | 0, v, _ => v = .agg (rowOf K)
  | 1, v, _ => v = .pointer (some ⟨g, 0, none⟩)
  | 2, v, _ => v = .pointer (some ⟨gi, 0, none⟩)
  | 3, v, W => ∃ A c, v = .slice A m c ∧ Own8 W base (.slice A m c) s
  | 4, v, W => ∃ A c, v = .agg (krC ⟨⟨K, s⟩, A, c⟩).toArray ∧ Own8 W base (.slice A m c) s
  | _, _, _ => True
theorem Own8.unt {w w' : World} {base : Nat} {v : Value} {l : List UInt8} {F : List Nat} (h : Own8 w base v l) (hu : Untouched F w w') (hF : ∀ k ∈ F, k < base) : Own8 w' base v l := by
  obtain ⟨_, _, _, _, hbd⟩ := h.form
  exact h.at_ fun k hk => hu.block k (hbd k hk).2 (fun hm => by have := hF k hm; have := (hbd k hk).1; omega)
theorem RtR.keep {g gi m base j : Nat} {K s : List UInt8} {v : Value} {W W' : World} {F : List Nat} (h : RtR g gi m base K s j v W) (hu : Untouched F W W') (hF : ∀ k ∈ F, k < base) : RtR g gi m base K s j v W' := by
  unfold RtR at h ⊢
  split at h <;> first
    | (obtain ⟨A, c, e, ho⟩ := h; exact ⟨A, c, e, ho.unt hu hF⟩)
    | exact h
    | trivial
def RtS (gi gr : Nat) (F : List Nat) (K s : List UInt8) (base : Nat) (l2 : List UInt8) (e2 : Int) (l3 : List UInt8) (e3 : Int) : Nat → World → Prop
  | 0, W => InFc W gi l2 e2 F ∧ Bk W gr 41 (krC kr0).toArray
  | 1, W => InFc W gi l3 e3 F ∧ Bk W gr 41 (krC kr0).toArray
  | 2, W => InFc W gi l3 e3 F ∧ ∃ A c, Bk W gr 41 (krC ⟨⟨K, s⟩, A, c⟩).toArray ∧ Own8 W base (.slice A s.length c) s
  | _, _ => True
theorem RtS.drew {gi gr : Nat} {F : List Nat} {K s : List UInt8} {base : Nat} {l2 : List UInt8} {e2 : Int} {l3 : List UInt8} {e3 : Int} {W : World} (h : RtS gi gr F K s base l2 e2 l3 e3 0 W) : RtS gi gr F K s base l2 e2 l3 e3 0 W.drew :=
  ⟨h.1.apart (G := []) (Untouched.drewN 1) (fun _ _ => by simp), h.2⟩
set_option maxRecDepth 100000 in
theorem builtKr32 (a0 a1 a2 a3 a4 a5 a6 a7 a8 a9 a10 a11 a12 a13 a14 a15 a16 a17 a18 a19 a20 a21 a22 a23 a24 a25 a26 a27 a28 a29 a30 a31 : UInt8) (A : Option Addr) (n c : Nat) : Tryd.prog.built 41 [(0, .agg (rowOf [a0, a1, a2, a3, a4, a5, a6, a7, a8, a9, a10, a11, a12, a13, a14, a15, a16, a17, a18, a19, a20, a21, a22, a23, a24, a25, a26, a27, a28, a29, a30, a31])), (1, .slice A n c)] = some ((rowOf [a0, a1, a2, a3, a4, a5, a6, a7, a8, a9, a10, a11, a12, a13, a14, a15, a16, a17, a18, a19, a20, a21, a22, a23, a24, a25, a26, a27, a28, a29, a30, a31]).toList ++ [Value.slice A n c]).toArray := by kernel_rfl
theorem builtKr (K s : List UInt8) (hK : K.length = 32) (A : Option Addr) (n c : Nat) (hn : s.length = n) : Tryd.prog.built 41 [(0, .agg (rowOf K)), (1, .slice A n c)] = some (krC ⟨⟨K, s⟩, A, c⟩).toArray := by
  subst hn
  match K, hK with
  | [a0, a1, a2, a3, a4, a5, a6, a7, a8, a9, a10, a11, a12, a13, a14, a15, a16, a17, a18, a19, a20, a21, a22, a23, a24, a25, a26, a27, a28, a29, a30, a31], _ => exact builtKr32 a0 a1 a2 a3 a4 a5 a6 a7 a8 a9 a10 a11 a12 a13 a14 a15 a16 a17 a18 a19 a20 a21 a22 a23 a24 a25 a26 a27 a28 a29 a30 a31 A s.length c
theorem step_builtM {P : Program} {ops : Array Oper} {o : Oper} {a : Act} {w : World} {K : Act → World → Prop} {Q : Exit → Act → World → Prop} {E : Prop} (hw : Region.wanted o (yielded ops a.tmps) = true) (t : TypeId) (parts : Array (Nat × Operand)) (ho : o.op = .build t parts) (X : Array Value)
    (hf : P.built t (parts.map fun (i, x) => (i, a.eval x)).toList = some X) (hk : K (a.put o.dst (.agg X)) w) : if Region.wanted o (yielded ops a.tmps) = true then Oper.wp P o a w K Q else E := by
  refine step_run hw (v := .agg X) (w' := w) ?_ hk
  have h := run_build (P := P) w t (parts.map fun (i, x) => (i, a.eval x)) X hf
  unfold execOp
  simp only [ho, Sem.run_bind, Sem.run_pure, h, Result.andThen_ok]
set_option maxRecDepth 100000 in
set_option maxHeartbeats 4000000 in
theorem row_t (w : World) (gi : Nat) (l : List UInt8) (er : Int) (F : List Nat) (h : InFc w gi l er F) (hF : ∀ k ∈ F, k < w.heap.size) (hm : l.length ≤ 140737488355328) :
    Calls Tryd.prog 38 #[IN gi] w (ItP w gi F (rowF l er).2 (fun v W => ∃ A c, v = .agg (krC ⟨⟨pad32 (rowF l er).1.key, (rowF l er).1.set⟩, A, c⟩).toArray ∧ Own8 W w.heap.size (.slice A (rowF l er).1.set.length c) (rowF l er).1.set)) := by
  obtain ⟨g, hg⟩ : ∃ g, w.heap.size = g := ⟨_, rfl⟩
  obtain ⟨w1, hw1⟩ : ∃ x, w.alloc (.cells #[.pointer (some ⟨gi, 0, none⟩)] 96) = x := ⟨_, rfl⟩
  obtain ⟨w2, hw2⟩ : ∃ x, w1.alloc (.cells (krC kr0).toArray 41) = x := ⟨_, rfl⟩
  have B1 := show Below w.heap.size w w1 by rw [← hw1]; exact (Below.refl _ _).alloc (Nat.le_refl _) _
  have S1 : w1.heap.size = g + 1 := by rw [← hw1, ← hg]; simp
  have B2 := show Below w1.heap.size w1 w2 by rw [← hw2]; exact (Below.refl _ _).alloc (Nat.le_refl _) _
  have S2 : w2.heap.size = g + 2 := by rw [← hw2]; simp [S1]
  have P2 := hidm_ (show Bk w2 g 96 #[.pointer (some ⟨gi, 0, none⟩)] by
    have h0 : Bk w1 g 96 #[.pointer (some ⟨gi, 0, none⟩)] := by rw [← hw1, ← hg]; exact Bk.new w _ _
    exact h0.below B2 h0.lt)
  have R2 := hidm_ (show Bk w2 (g + 1) 41 (krC kr0).toArray by rw [← hw2, ← S1]; exact Bk.new w1 _ _)
  have X2 := hidm_ (B1.trans (B2.mono (by omega)))
  have HF := hidm_ (show ∀ k ∈ F, k < g from fun k hk => by have := hF k hk; omega)
  have I2 := hidm_ (h.apart (G := []) (Untouched.of_below X2.out) (fun _ _ => by simp))
  have HGI := hidm_ (HF.out gi I2.out.lt.1)
  obtain ⟨K0, l2, e2, hv⟩ : ∃ a b c, fixS 32 l er = (a, b, c) := ⟨_, _, _, rfl⟩
  obtain ⟨s, l3, e3, hv2⟩ : ∃ a b c, bytS 1048576 l2 e2 = (a, b, c) := ⟨_, _, _, rfl⟩
  have L2 := hidm_ (show l2.length ≤ 140737488355328 by have := fixS_le 32 l er; rw [hv] at this; exact Nat.le_trans this hm)
  have cf := fixed_t w2 gi l er F I2.out (fun k hk => by have := HF.out k hk; omega) hm
  rw [rowF_of hv hv2]
  unfold digF IN at cf
  rw [hv] at cf
  simp only at cf ⊢
  unfold IN
  obtain ⟨K, hKe⟩ : ∃ K, pad32 K0 = K := ⟨_, rfl⟩
  rw [hKe] at cf ⊢
  have KL := hidm_ (show K.length = 32 by rw [← hKe]; exact pad32_len K0)
  have HV := hidm_ hv2
  obtain ⟨m, hme⟩ : ∃ m, s.length = m := ⟨_, rfl⟩
  have HM := hidm_ hme
  have hz := z32m
  have hz2 := z33m
  have i3 := i32m K KL.out
  have h1c := bytes_one K
  have hs0 : (rowOf (zbytes 32)).size = (rowOf K).size := by rw [rowOf_size, rowOf_size, zbytes_len, KL.out]
  have i33 := hidm_ (fun (A : Option Addr) (c : Nat) => i33m ⟨⟨K, s⟩, A, c⟩ KL.out)
  have hcP := P2.out.cell 0
  have HG := hidm_ hg
  have HS2 := hidm_ S2
  clear h hF hv hv2 B1 B2 hKe hm hme
  go_enter Tryd.func38, Tryd.ntmps38
  go_upto_region 2 with (first
    | (refine wpList_load_row rfl 96 (.tmp 1) rfl g rfl 96 #[.pointer (some ⟨gi, 0, none⟩)] (0, 0) _ P2.out Tryd.underlying96 rfl (by kernel_rfl) ?_)
    | (go_at_call 39; ((with_reducible refine cf.mono ?_); clear cf; rintro e w3 ⟨_, rfl, rfl, hI3, hU3⟩; have I3 := hidm_ hI3; have U3 := hidm_ hU3; clear hI3 hU3))
    | (refine wpList_put_row rfl 22 (.tmp 3) (.tmp 5) rfl w3.heap.size (rowOf K) rfl rfl 22 (rowOf (zbytes 32)) (Bk.new w3 _ _) i3 hs0 h1c ?_; intro w4 k4 g4 s4; have V4 := hidm_ k4; have B4 := hidm_ (show Below w3.heap.size w3 w4 from ((Below.refl w3.heap.size w3).alloc (Nat.le_refl _) _).grown g4 (by simp) (fun j hj => by injection hj with hj; omega)); have S4 := hidm_ (show w4.heap.size = w3.heap.size + 1 by rw [s4]; simp); clear k4 g4 s4))
  clear hw1 hw2 S1 S2 hg hz hz2 hs0 hcP
  obtain ⟨gk, hgk⟩ : ∃ x, w3.heap.size = x := ⟨_, rfl⟩
  have HK3 := hidm_ (show g + 2 ≤ gk by rw [← hgk]; have := U3.out.size; have := HS2.out; omega)
  have BK4 := hidm_ (show Bk w4 gk 22 (rowOf K) by rw [← hgk]; exact V4.out)
  have SZ4 := hidm_ (show w4.heap.size = gk + 1 by rw [← hgk]; exact S4.out)
  have P4 := hidm_ ((P2.out.untouched U3.out (by simp; have := HGI.out; omega)).below B4.out (by rw [hgk]; have := HK3.out; omega))
  have Q0 := hidm_ (show RtS gi (g + 1) F K s (gk + 1) l2 e2 l3 e3 0 w4 from ⟨I3.out.apart (G := []) (Untouched.of_below B4.out) (fun _ _ => by simp), (R2.out.untouched U3.out (by simp; have := HGI.out; omega)).below B4.out (by rw [hgk]; have := HK3.out; omega)⟩)
  have U4 := hidm_ (((Untouched.of_below (F := [gi]) X2.out).trans (Grew.refl _ _) U3.out).trans (Grew.refl _ _) (Untouched.of_below (F := [gi]) B4.out))
  rename_i K9 hK9
  simp only [hgk]
  clear P2 R2 X2 I2 I3 U3 V4 B4 S4 hgk
  refine region_byJF [6, 7, 8, 9, 10] (fun W => Untouched [gi, g + 1] w4 W) (fun W W2 => Untouched [gi, g + 1] W W2) (RtR g gi m (gk + 1) K s) (fun D _ W => ChJ [3, 5] (RtS gi (g + 1) F K s (gk + 1) l2 e2 l3 e3) D W) (by kernel_rfl) (by kernel_rfl) (by kernel_rfl) (by kernel_rfl) (fun j v w w' hT hr => RtR.keep hr hT (by have := HGI.out; have := HK3.out; simp; omega)) (fun j v w hlt hj _ => ?_) (Untouched.drewN 1) ?_ (ChJ.start Q0.out.drew) ?_
  · rcases j with _ | _ | _ | _ | _ | _ | j
    all_goals first
      | (exfalso; simp [dstOf] at hj; done)
      | trivial
  · refine ⟨fun D a9 W hC hd hsz hf hv hJ hL hW K8 hK => ?_, fun D a9 W hC hd hsz hf hv hJ hL hW K8 hK => ?_, fun D a9 W hC hd hsz hf hv hJ hL hW K8 hK => ?_, fun D a9 W hC hd hsz hf hv hJ hL hW K8 hK => ?_, fun D a9 W hC hd hsz hf hv hJ hL hW K8 hK => ?_, fun D a9 W hC hd hsz hf hv hJ hL hW K8 hK => ?_, trivial⟩
    · clear hsz
      have eS1_ := slot_of (a := a9) (s := 3) (v := .pointer (some ⟨gk, 0, none⟩)) (hf 3 (by kernel_rfl))
      refine step_load_row rfl 22 (.tmp 3) rfl gk (eval_of (hf 3 (by kernel_rfl))) 22 (rowOf K) (BK4.out.untouched hC (by have := HGI.out; have := HK3.out; simp; omega)) _ Tryd.underlying22 rfl i3 (hK _ _ hC (Untouched.refl _ _) rfl (hJ.same 0 (by decide)))
    · clear hsz
      have eS1_ := slot_of (a := a9) (s := 1) (v := .pointer (some ⟨g, 0, none⟩)) (hf 1 (by kernel_rfl))
      refine step_run (wanted_none rfl) (v := .pointer (some ⟨g, 0, none⟩)) (w' := W) ?_ (hK _ _ hC (Untouched.refl _ _) rfl (hJ.same 1 (by decide)))
      go_simp
    · clear hsz
      have eS1_ := slot_of (a := a9) (s := 7) (v := .pointer (some ⟨g, 0, none⟩)) (hv 1 (by kernel_rfl))
      have hcp : W.cell? ⟨g, 0, none⟩ = some (.pointer (some ⟨gi, 0, none⟩)) := (P4.out.untouched hC (by have := HGI.out; simp; omega)).cell 0
      refine step_run (wanted_none rfl) (v := .pointer (some ⟨gi, 0, none⟩)) (w' := W) ?_ (hK _ _ hC (Untouched.refl _ _) rfl (hJ.same 2 (by decide)))
      go_simp
    · clear hsz
      have eS1_ := slot_of (a := a9) (s := 8) (v := .pointer (some ⟨gi, 0, none⟩)) (hv 2 (by kernel_rfl))
      obtain ⟨⟨hI0, hR0⟩, hd⟩ := hJ.at_ 0 (by decide) hL (fun j hj e => by omega)
      refine step_callx 61 #[.pointer (some ⟨gi, 0, none⟩), .int .i64 1048576] (wanted_none rfl) (w' := W) ?_ ((inbytes_any W gi 1048576 l2 e2 F hI0 L2.out (by omega) (by omega)).mono fun e W2 hh => ?_)
      · go_simp
      · obtain ⟨⟨A, m8, c, rfl, hm8, hO⟩, hI, hU⟩ := hh
        have hHV : fixS (numS 4 1048576 l2 e2).1 (numS 4 1048576 l2 e2).2.1 (numS 4 1048576 l2 e2).2.2 = (s, l3, e3) := HV.out
        rw [hHV] at hm8 hO hI
        obtain rfl : m8 = m := hm8.trans HM.out
        have hU2 : Untouched [gi, g + 1] W W2 := ⟨hU.os, hU.tape, hU.output, hU.size, fun k hk hn => hU.block k hk (fun hm => hn (by rw [List.mem_singleton.1 hm]; simp))⟩
        have hO2 : Own8 W2 (gk + 1) (.slice A m8 c) s := hO.lower (by have := hC.size; have := SZ4.out; omega)
        exact ⟨_, rfl, hK _ _ (hC.trans (Grew.refl _ _) hU2) hU2 ⟨A, c, rfl, hO2⟩ (ChJ.next 0 (by decide) (by decide) hd ⟨hI, hR0.untouched hU (by have := HGI.out; simp; omega)⟩)⟩
    · clear hsz
      have eS1_ := slot_of (a := a9) (s := 6) (v := .agg (rowOf K)) (hv 0 (by kernel_rfl))
      obtain ⟨A, c, ev, ho⟩ := hv 3 (by kernel_rfl)
      have eA_ := eval_of (a := a9) (s := 9) ev
      have eB_ := eval_of (a := a9) (s := 6) (v := .agg (rowOf K)) (hv 0 (by kernel_rfl))
      refine step_builtM (wanted_none rfl) 41 #[(0, .tmp 6), (1, .tmp 9)] rfl (krC ⟨⟨K, s⟩, A, c⟩).toArray ?_ ?_
      · simp only [List.map_toArray, List.map_cons, List.map_nil, eA_, eB_]
        exact builtKr K s KL.out A m c HM.out
      · exact hK _ _ hC (Untouched.refl _ _) ⟨A, c, rfl, ho⟩ (hJ.same 4 (by decide))
    · clear hsz
      have eS1_ := slot_of (a := a9) (s := 2) (v := .pointer (some ⟨g + 1, 0, none⟩)) (hf 2 (by kernel_rfl))
      obtain ⟨A, c, ev, ho⟩ := hv 4 (by kernel_rfl)
      obtain ⟨⟨hI1, hR1⟩, hd⟩ := hJ.at_ 1 (by decide) hL (fun j hj e => by have hj0 : j = 0 := (by omega); subst hj0; exact hW 3 (by kernel_rfl))
      refine step_put_row rfl 41 (.tmp 2) (.tmp 10) rfl (g + 1) (krC ⟨⟨K, s⟩, A, c⟩).toArray (eval_of (hf 2 (by kernel_rfl))) (eval_of ev) 41 (krC kr0).toArray hR1 (i33.out A c) (by rw [List.size_toArray, List.size_toArray, krC_len kr0 rfl, krC_len ⟨⟨K, s⟩, A, c⟩ KL.out]) (krC_one _) ?_
      intro wz kz gz sz
      have hUz : Untouched [gi, g + 1] W wz := ⟨gz.os, gz.tape, gz.output, gz.size, fun k hk hn => gz.block k hk (fun e => by injection e with e; exact hn (by rw [e]; simp))⟩
      have hUy : Untouched [g + 1] W wz := ⟨gz.os, gz.tape, gz.output, gz.size, fun k hk hn => gz.block k hk (fun e => by injection e with e; exact hn (by rw [e]; simp))⟩
      have ho2 : Own8 wz (gk + 1) (.slice A s.length c) s := by rw [HM.out]; exact ho.unt hUz (by have := HGI.out; have := HK3.out; simp; omega)
      exact hK undef _ (hC.trans (Grew.refl _ _) hUz) hUz trivial (ChJ.next 1 (by decide) (by decide) hd ⟨hI1.apart hUy (fun k hk => by have := HF.out k hk; simp; omega), A, c, kz, ho2⟩)
  · intro f w6 hC6 hv6 D6 hD6 hJ6
    obtain ⟨a6, hJ, _⟩ := hJ6
    obtain ⟨hI6, A, c, hB6, hO6⟩ := hJ.last 1 (by decide) rfl (hD6 5 (by decide))
    have H6 := hidm_ hI6
    have B6 := hidm_ hB6
    have O6 := hidm_ hO6
    have U6 := hidm_ (show Untouched [gi, g + 1] w4 w6 from hC6)
    clear hv6 hD6 hJ hC6 hI6 hB6 hO6
    simp only [framed, List.foldl_cons, List.foldl_nil, List.setIfInBounds_toArray, List.set_cons_succ, List.set_cons_zero]
    have hU : Untouched [gi] w w6 := ⟨U6.out.os.trans U4.out.os, U6.out.tape.trans U4.out.tape, U6.out.output.trans U4.out.output, Nat.le_trans U4.out.size U6.out.size, fun k hk hn => (U6.out.block k (Nat.lt_of_lt_of_le hk U4.out.size) (by have := HG.out; simp at hn ⊢; exact ⟨hn, by omega⟩)).trans (U4.out.block k hk hn)⟩
    refine hK9 _ _ ?_
    go_wp2
    exact bodyPost_ret (results_cellM Tryd.results38 _ _ (g + 1) rfl (run_loadVar_row _ _ _ _ _ (0, 0) _ B6.out Tryd.underlying41 rfl (i33.out A c))) rfl ⟨_, rfl, ⟨A, c, rfl, O6.out.lower (by have := HG.out; have := HK3.out; omega)⟩, H6.out, hU⟩
end Go.Proofs.YtegfnlnbhhmkjaaDoor

namespace Go.Proofs.YtegfnlnbhhmkjaaDoor
set_option maxRecDepth 100000
open Go.RowKit
set_option linter.unusedVariables false
set_option linter.unusedSimpArgs false

theorem infoInt : (Tryd.prog.info? 3).map (fun i => (i.size, i.bytes, i.zero.map (·.cells.size))) = some (intE.k, 8, some intE.k) := by kernel_rfl
theorem infoDig : (Tryd.prog.info? 22).map (fun i => (i.size, i.bytes, i.zero.map (·.cells.size))) = some (digE.k, 32, some digE.k) := by kernel_rfl
theorem infoKr : (Tryd.prog.info? 41).map (fun i => (i.size, i.bytes, i.zero.map (·.cells.size))) = some (krE.k, 56, some krE.k) := by kernel_rfl
theorem InFc.unt {w w' : World} {gi : Nat} {l : List UInt8} {e : Int} {F : List Nat} (h : InFc w gi l e F) (hb : Below w.heap.size w w') : InFc w' gi l e F := h.apart (G := []) (Untouched.of_below hb) (fun _ _ => by simp)
theorem InFc.grownI {w w' : World} {gi : Nat} {l : List UInt8} {e : Int} {F : List Nat} {own : Option Nat} {base : Nat} (h : InFc w gi l e F) (hg : w.grownBy w' own) (hF : ∀ k ∈ F, k < base) (ho : ∀ k, own = some k → base ≤ k) : InFc w' gi l e F :=
  h.apart (G := own.toList) ⟨hg.os, hg.tape, hg.output, hg.size, fun b hb hn => hg.block b hb (fun e => hn (by rw [← e]; simp))⟩ (fun k hk hm => by
    cases own with
    | none => simp at hm
    | some x => simp at hm; have := ho x rfl; have := hF k hk; omega)
theorem Untouched.grownU {w w1 w' : World} {G : List Nat} {own : Option Nat} (h : Untouched G w w1) (hg : w1.grownBy w' own) (ho : ∀ k, own = some k → w.heap.size ≤ k) : Untouched G w w' :=
  ⟨hg.os.trans h.os, hg.tape.trans h.tape, hg.output.trans h.output, Nat.le_trans h.size hg.size, fun k hk hn => (hg.block k (Nat.lt_of_lt_of_le hk h.size) (fun e => by have := ho k e.symm; omega)).trans (h.block k hk hn)⟩
theorem os_snoc {β : Type} {L : List β} {x : β} {P : β → Prop} (h : ∀ q ∈ L, P q) (hx : P x) : ∀ q ∈ L ++ [x], P q := fun q hq => by
  rcases List.mem_append.1 hq with hq | hq
  · exact h q hq
  · rw [List.mem_singleton.1 hq]; exact hx
theorem Own8.row_apart {α : Type} {N : Enc α} {te : TypeId} {w w' : World} {base b2 : Nat} {v u : Value} {l : List UInt8} {L : List α} (h : Own8 w base v l) (ho : OwnG N te w b2 u L) (hte : te ≠ 5) (hg : w.grownBy w' u.ownBlock) : Own8 w' base v l := by
  refine h.kept hg ?_
  cases hv : v.ownBlock with
  | none => exact .inl rfl
  | some k =>
    refine .inr fun e => ?_
    rcases h.2 with ⟨hn, _⟩ | ⟨g, cap, cur, rfl, _, hb, _⟩
    · rw [hn] at hv; cases hv
    · rcases ho.2 with ⟨hn, _⟩ | ⟨g2, cap2, cur2, rfl, _, hb2, _⟩
      · rw [hn] at e; cases e
      · have e1 : g = k := by injection hv
        have e2 : k = g2 := by injection e
        rw [e1, e2, hb2] at hb
        injection hb with hb
        injection hb with _ hb
        exact hte hb
set_option maxRecDepth 100000 in
set_option maxHeartbeats 4000000 in
theorem takes_at (w : World) (gi : Nat) (l : List UInt8) (er : Int) (F : List Nat) (h : InFc w gi l er F) (hF : ∀ k ∈ F, k < w.heap.size) :
    Calls Tryd.prog 40 #[IN gi, .func (.func 41) #[IN gi] #[]] w fun e w' => ∃ A n c, e = .returned (.slice A n c) ∧ OwnG intE 3 w' w.heap.size (.slice A n c) (cntF atF l er).1 ∧ InFc w' gi (cntF atF l er).2.1 (cntF atF l er).2.2 F ∧ Untouched [gi] w w' := by
  obtain ⟨w1, hw1⟩ : ∃ x, w.alloc (.cells #[.pointer (some ⟨gi, 0, none⟩)] 96) = x := ⟨_, rfl⟩
  have B1 := show Below w.heap.size w w1 by rw [← hw1]; exact (Below.refl _ _).alloc (Nat.le_refl _) _
  have HB := hidm_ B1
  have hcP : w1.cell? ⟨w.heap.size, 0, none⟩ = some (.pointer (some ⟨gi, 0, none⟩)) := (show Bk w1 w.heap.size 96 #[.pointer (some ⟨gi, 0, none⟩)] by rw [← hw1]; exact Bk.new w _ _).cell 0
  have I1 := hidm_ (h.unt B1)
  have HF := hidm_ hF
  have HGI := hidm_ (hF gi h.lt.1)
  have cs := insmall_any w1 gi 255 l er F I1.out (by omega) (by omega)
  obtain ⟨v, l1, e1, hv⟩ : ∃ a b c, numS 1 255 l er = (a, b, c) := ⟨_, _, _, rfl⟩
  have v0 : 0 ≤ v := by have := numS_nn 1 255 l er; rw [hv] at this; exact this
  have v1 : v ≤ 255 := by have := numS_most 1 255 (by omega) l er; rw [hv] at this; exact this
  have LL := hidm_ (show l1.length ≤ l.length by have := numS_le 1 255 l er; rw [hv] at this; exact this)
  unfold NumP at cs
  rw [hv] at cs
  simp only at cs
  obtain ⟨q, hq⟩ : ∃ q : Nat, v = (q : Int) := ⟨v.toNat, by omega⟩
  subst hq
  have q255 : q ≤ 255 := by omega
  have HC := hidm_ (show cntF atF l er = rdF atF q l1 e1 from cntF_of hv rfl)
  rw [HC.out]
  unfold IN
  have HSZ := hidm_ (show ∀ wr, Untouched [gi] w wr → ∀ k ∈ F, k < wr.heap.size from fun wr hu k hk => Nat.lt_of_lt_of_le (hF k hk) hu.size)
  clear h hF hv v0 v1 B1
  go_enter Tryd.func40, Tryd.ntmps40
  go_upto_region 3 with (go_at_call 36; ((with_reducible refine cs.mono ?_); clear cs; rintro e w2 ⟨rfl, h1, h2⟩; have I2 := hidm_ h1; have U2 := hidm_ ((Untouched.of_below (F := [gi]) HB.out).trans (Grew.refl _ _) h2); clear h1 h2))
  clear hcP hw1
  go_loopw [9, 5] (fun i o wr => ∃ (k : Nat) (A' : Option Addr) (c' : Nat), k ≤ q ∧ i = .int .i64 k ∧ o = .slice A' k c' ∧ Hid (OwnG intE 3 wr w.heap.size (.slice A' k c') (rdF atF k l1 e1).1) ∧ Hid (InFc wr gi (rdF atF k l1 e1).2.1 (rdF atF k l1 e1).2.2 F) ∧ Hid (Untouched [gi] w wr)) (fun i _ _ => q - (intOf i).toNat)
  case atStart => exact ⟨0, none, 0, Nat.zero_le _, rfl, rfl, hidm_ (OwnG.nil_ _ _ _), I2, U2⟩
  case round =>
    obtain ⟨k, A', c', hk, rfl, rfl, HO, HI, HU⟩ := hrel
    by_cases hlt : k < q
    · have tl : (k : Int) < (q : Int) := by omega
      clear I2 U2
      obtain ⟨lk, hlk⟩ : ∃ x, (rdF atF k l1 e1).2.1 = x := ⟨_, rfl⟩
      obtain ⟨ek, hek⟩ : ∃ x, (rdF atF k l1 e1).2.2 = x := ⟨_, rfl⟩
      obtain ⟨ms, hms⟩ : ∃ x, (rdF atF k l1 e1).1 = x := ⟨_, rfl⟩
      have HML := hidm_ (show ms.length = k by rw [← hms]; exact rdF_len l1 e1 k)
      rw [hlk, hek] at HI
      have ci := at_t wr gi lk ek F HI.out (HSZ.out wr HU.out)
      obtain ⟨z, l2, e2, hz⟩ : ∃ a b c, atF lk ek = (a, b, c) := ⟨_, _, _, rfl⟩
      have HR1 := hidm_ (show rdF atF (k + 1) l1 e1 = (ms ++ [z], l2, e2) from rdF_succ (by rw [← hms, ← hlk, ← hek]) hz)
      rw [hz] at ci
      unfold ItP at ci
      simp only at ci
      rw [hms] at HO
      unfold IN at ci
      have LT := hidm_ HO.out.lt
      clear hlk hek hms hz
      go_wp2_with (first
        | (go_at_call 41; ((with_reducible refine ci.mono ?_); clear ci; rintro e w5 ⟨_, rfl, rfl, hI5, hU5⟩; have I5 := hidm_ hI5; have U5 := hidm_ hU5; have O5 := hidm_ (HO.out.keep U5.out (fun k hk hm => by have h9 := List.mem_singleton.1 hm; have := (LT.out k hk).1; have := HGI.out; omega)); clear hI5 hU5; obtain ⟨w6, hw6⟩ : ∃ x, w5.alloc (.cells #[.int .i64 z] 3) = x := ⟨_, rfl⟩; have B6 := hidm_ (show Below w5.heap.size w5 w6 by rw [← hw6]; exact (Below.refl _ _).alloc (Nat.le_refl _) _); have K6 := hidm_ (show Bk w6 w5.heap.size 3 (intE.c z).toArray by rw [← hw6]; exact Bk.new w5 _ _); have RA := hidm_ (RdG.of_block K6.out K6.out.lt); have O6 := hidm_ (O5.out.below B6.out (Nat.le_refl _))))
        | (refine wpList_appG rfl (.tmp 11) (.tmp 14) rfl Tryd.underlying25 infoInt O6.out rfl 1 1 rfl RA.out rfl (by have := HML.out; have := q255; omega) (by decide) (Nat.le_trans HU.out.size (Nat.le_trans U5.out.size B6.out.size)) ?_; intro A2 c2 w7 k1 k2 k3; rw [HML.out] at k1 k3 ⊢; have O7 := hidm_ k1; have I7 := hidm_ ((I5.out.unt B6.out).grownI k2 HF.out (fun j hj => (O6.out.lt j hj).1)); have U7 := hidm_ (((HU.out.trans (Grew.refl _ _) U5.out).trans (Grew.refl _ _) (Untouched.of_below (F := [gi]) B6.out)).grownU k2 (fun j hj => (O6.out.lt j hj).1)); clear k1 k2 k3))
      go_roundw
      case rel => exact ⟨k + 1, A2, c2, by omega, by go_num, rfl, hidm_ (by rw [HR1.out]; exact O7.out), hidm_ (by rw [HR1.out]; exact I7.out), U7⟩
      case measure => simp [intOf]; omega
    · have tl : ¬ (k : Int) < (q : Int) := by omega
      obtain rfl : k = q := by omega
      clear I2 U2
      go_wp2
      go_ret
      exact ⟨A', k, c', rfl, HO.out, HI.out, HU.out⟩
set_option maxRecDepth 100000 in
set_option maxHeartbeats 4000000 in
theorem takes_dig (w : World) (gi : Nat) (l : List UInt8) (er : Int) (F : List Nat) (h : InFc w gi l er F) (hF : ∀ k ∈ F, k < w.heap.size) (hm : l.length ≤ 140737488355328) :
    Calls Tryd.prog 42 #[IN gi, .func (.func 39) #[IN gi] #[]] w fun e w' => ∃ A n c, e = .returned (.slice A n c) ∧ OwnG digE 22 w' w.heap.size (.slice A n c) (cntF digF l er).1 ∧ InFc w' gi (cntF digF l er).2.1 (cntF digF l er).2.2 F ∧ Untouched [gi] w w' := by
  obtain ⟨w1, hw1⟩ : ∃ x, w.alloc (.cells #[.pointer (some ⟨gi, 0, none⟩)] 96) = x := ⟨_, rfl⟩
  have B1 := show Below w.heap.size w w1 by rw [← hw1]; exact (Below.refl _ _).alloc (Nat.le_refl _) _
  have HB := hidm_ B1
  have hcP : w1.cell? ⟨w.heap.size, 0, none⟩ = some (.pointer (some ⟨gi, 0, none⟩)) := (show Bk w1 w.heap.size 96 #[.pointer (some ⟨gi, 0, none⟩)] by rw [← hw1]; exact Bk.new w _ _).cell 0
  have I1 := hidm_ (h.unt B1)
  have HF := hidm_ hF
  have HGI := hidm_ (hF gi h.lt.1)
  have cs := insmall_any w1 gi 255 l er F I1.out (by omega) (by omega)
  obtain ⟨v, l1, e1, hv⟩ : ∃ a b c, numS 1 255 l er = (a, b, c) := ⟨_, _, _, rfl⟩
  have v0 : 0 ≤ v := by have := numS_nn 1 255 l er; rw [hv] at this; exact this
  have v1 : v ≤ 255 := by have := numS_most 1 255 (by omega) l er; rw [hv] at this; exact this
  have LL := hidm_ (show l1.length ≤ l.length by have := numS_le 1 255 l er; rw [hv] at this; exact this)
  unfold NumP at cs
  rw [hv] at cs
  simp only at cs
  obtain ⟨q, hq⟩ : ∃ q : Nat, v = (q : Int) := ⟨v.toNat, by omega⟩
  subst hq
  have q255 : q ≤ 255 := by omega
  have HC := hidm_ (show cntF digF l er = rdF digF q l1 e1 from cntF_of hv rfl)
  rw [HC.out]
  have HMM := hidm_ hm
  clear hm
  unfold IN
  have HSZ := hidm_ (show ∀ wr, Untouched [gi] w wr → ∀ k ∈ F, k < wr.heap.size from fun wr hu k hk => Nat.lt_of_lt_of_le (hF k hk) hu.size)
  clear h hF hv v0 v1 B1
  go_enter Tryd.func42, Tryd.ntmps42
  go_upto_region 3 with (go_at_call 36; ((with_reducible refine cs.mono ?_); clear cs; rintro e w2 ⟨rfl, h1, h2⟩; have I2 := hidm_ h1; have U2 := hidm_ ((Untouched.of_below (F := [gi]) HB.out).trans (Grew.refl _ _) h2); clear h1 h2))
  clear hcP hw1
  go_loopw [9, 5] (fun i o wr => ∃ (k : Nat) (A' : Option Addr) (c' : Nat), k ≤ q ∧ i = .int .i64 k ∧ o = .slice A' k c' ∧ Hid (OwnG digE 22 wr w.heap.size (.slice A' k c') (rdF digF k l1 e1).1) ∧ Hid (InFc wr gi (rdF digF k l1 e1).2.1 (rdF digF k l1 e1).2.2 F) ∧ Hid (Untouched [gi] w wr)) (fun i _ _ => q - (intOf i).toNat)
  case atStart => exact ⟨0, none, 0, Nat.zero_le _, rfl, rfl, hidm_ (OwnG.nil_ _ _ _), I2, U2⟩
  case round =>
    obtain ⟨k, A', c', hk, rfl, rfl, HO, HI, HU⟩ := hrel
    by_cases hlt : k < q
    · have tl : (k : Int) < (q : Int) := by omega
      clear I2 U2
      obtain ⟨lk, hlk⟩ : ∃ x, (rdF digF k l1 e1).2.1 = x := ⟨_, rfl⟩
      obtain ⟨ek, hek⟩ : ∃ x, (rdF digF k l1 e1).2.2 = x := ⟨_, rfl⟩
      obtain ⟨ms, hms⟩ : ∃ x, (rdF digF k l1 e1).1 = x := ⟨_, rfl⟩
      have HML := hidm_ (show ms.length = k by rw [← hms]; exact rdF_len l1 e1 k)
      rw [hlk, hek] at HI
      have ci := fixed_t wr gi lk ek F HI.out (HSZ.out wr HU.out) (by rw [← hlk]; have := rdF_le (f := digF) digF_le l1 e1 k; have := LL.out; have := HMM.out; omega)
      obtain ⟨z, l2, e2, hz⟩ : ∃ a b c, digF lk ek = (a, b, c) := ⟨_, _, _, rfl⟩
      have HR1 := hidm_ (show rdF digF (k + 1) l1 e1 = (ms ++ [z], l2, e2) from rdF_succ (by rw [← hms, ← hlk, ← hek]) hz)
      rw [hz] at ci
      unfold ItP at ci
      simp only at ci
      rw [hms] at HO
      unfold IN at ci
      have LT := hidm_ HO.out.lt
      clear hlk hek hms hz
      go_wp2_with (first
        | (go_at_call 39; ((with_reducible refine ci.mono ?_); clear ci; rintro e w5 ⟨_, rfl, rfl, hI5, hU5⟩; have I5 := hidm_ hI5; have U5 := hidm_ hU5; have O5 := hidm_ (HO.out.keep U5.out (fun k hk hm => by have h9 := List.mem_singleton.1 hm; have := (LT.out k hk).1; have := HGI.out; omega)); clear hI5 hU5; obtain ⟨w6, hw6⟩ : ∃ x, w5.alloc (.cells (rowOf (pad32 z)) 22) = x := ⟨_, rfl⟩; have B6 := hidm_ (show Below w5.heap.size w5 w6 by rw [← hw6]; exact (Below.refl _ _).alloc (Nat.le_refl _) _); have K6 := hidm_ (show Bk w6 w5.heap.size 22 (digE.c z).toArray by rw [← hw6]; exact Bk.new w5 _ _); have RA := hidm_ (RdG.of_block K6.out K6.out.lt); have O6 := hidm_ (O5.out.below B6.out (Nat.le_refl _))))
        | (refine wpList_oneG digE Tryd.underlying42 infoDig (by decide) rfl (.tmp 13) rfl (rowOf (pad32 z)) rfl z rfl ?_; rw [hw6])
        | (refine wpList_appG rfl (.tmp 11) (.tmp 14) rfl Tryd.underlying42 infoDig O6.out rfl 1 1 rfl RA.out rfl (by have := HML.out; have := q255; omega) (by decide) (Nat.le_trans HU.out.size (Nat.le_trans U5.out.size B6.out.size)) ?_; intro A2 c2 w7 k1 k2 k3; rw [HML.out] at k1 k3 ⊢; have O7 := hidm_ k1; have I7 := hidm_ ((I5.out.unt B6.out).grownI k2 HF.out (fun j hj => (O6.out.lt j hj).1)); have U7 := hidm_ (((HU.out.trans (Grew.refl _ _) U5.out).trans (Grew.refl _ _) (Untouched.of_below (F := [gi]) B6.out)).grownU k2 (fun j hj => (O6.out.lt j hj).1)); clear k1 k2 k3))
      go_roundw
      case rel => exact ⟨k + 1, A2, c2, by omega, by go_num, rfl, hidm_ (by rw [HR1.out]; exact O7.out), hidm_ (by rw [HR1.out]; exact I7.out), U7⟩
      case measure => simp [intOf]; omega
    · have tl : ¬ (k : Int) < (q : Int) := by omega
      obtain rfl : k = q := by omega
      clear I2 U2
      go_wp2
      go_ret
      exact ⟨A', k, c', rfl, HO.out, HI.out, HU.out⟩
set_option maxRecDepth 100000 in
set_option maxHeartbeats 4000000 in
theorem takes_row (w : World) (gi : Nat) (l : List UInt8) (er : Int) (F : List Nat) (h : InFc w gi l er F) (hF : ∀ k ∈ F, k < w.heap.size) (hm : l.length ≤ 140737488355328) :
    Calls Tryd.prog 43 #[IN gi, .func (.func 38) #[IN gi] #[]] w fun e w' => ∃ A n c L, e = .returned (.slice A n c) ∧ (L : List KrA).map (·.r) = (cntF rowF l er).1 ∧ OwnG krE 41 w' w.heap.size (.slice A n c) L ∧ (∀ q ∈ L, Own8 w' w.heap.size (.slice q.sa q.r.set.length q.sc) q.r.set) ∧ InFc w' gi (cntF rowF l er).2.1 (cntF rowF l er).2.2 F ∧ Untouched [gi] w w' := by
  obtain ⟨w1, hw1⟩ : ∃ x, w.alloc (.cells #[.pointer (some ⟨gi, 0, none⟩)] 96) = x := ⟨_, rfl⟩
  have B1 := show Below w.heap.size w w1 by rw [← hw1]; exact (Below.refl _ _).alloc (Nat.le_refl _) _
  have HB := hidm_ B1
  have hcP : w1.cell? ⟨w.heap.size, 0, none⟩ = some (.pointer (some ⟨gi, 0, none⟩)) := (show Bk w1 w.heap.size 96 #[.pointer (some ⟨gi, 0, none⟩)] by rw [← hw1]; exact Bk.new w _ _).cell 0
  have I1 := hidm_ (h.unt B1)
  have HF := hidm_ hF
  have HGI := hidm_ (hF gi h.lt.1)
  have cs := insmall_any w1 gi 255 l er F I1.out (by omega) (by omega)
  obtain ⟨v, l1, e1, hv⟩ : ∃ a b c, numS 1 255 l er = (a, b, c) := ⟨_, _, _, rfl⟩
  have v0 : 0 ≤ v := by have := numS_nn 1 255 l er; rw [hv] at this; exact this
  have v1 : v ≤ 255 := by have := numS_most 1 255 (by omega) l er; rw [hv] at this; exact this
  have LL := hidm_ (show l1.length ≤ l.length by have := numS_le 1 255 l er; rw [hv] at this; exact this)
  unfold NumP at cs
  rw [hv] at cs
  simp only at cs
  obtain ⟨q, hq⟩ : ∃ q : Nat, v = (q : Int) := ⟨v.toNat, by omega⟩
  subst hq
  have q255 : q ≤ 255 := by omega
  have HC := hidm_ (show cntF rowF l er = rdF rowF q l1 e1 from cntF_of hv rfl)
  rw [HC.out]
  have HMM := hidm_ hm
  clear hm
  unfold IN
  have HSZ := hidm_ (show ∀ wr, Untouched [gi] w wr → ∀ k ∈ F, k < wr.heap.size from fun wr hu k hk => Nat.lt_of_lt_of_le (hF k hk) hu.size)
  clear h hF hv v0 v1 B1
  go_enter Tryd.func43, Tryd.ntmps43
  go_upto_region 3 with (go_at_call 36; ((with_reducible refine cs.mono ?_); clear cs; rintro e w2 ⟨rfl, h1, h2⟩; have I2 := hidm_ h1; have U2 := hidm_ ((Untouched.of_below (F := [gi]) HB.out).trans (Grew.refl _ _) h2); clear h1 h2))
  clear hcP hw1
  go_loopw [9, 5] (fun i o wr => ∃ (k : Nat) (A' : Option Addr) (c' : Nat) (L : List KrA), k ≤ q ∧ i = .int .i64 k ∧ o = .slice A' k c' ∧ Hid (L.map (·.r) = (rdF rowF k l1 e1).1) ∧ Hid (∀ q ∈ L, Own8 wr w.heap.size (.slice q.sa q.r.set.length q.sc) q.r.set) ∧ Hid (OwnG krE 41 wr w.heap.size (.slice A' k c') L) ∧ Hid (InFc wr gi (rdF rowF k l1 e1).2.1 (rdF rowF k l1 e1).2.2 F) ∧ Hid (Untouched [gi] w wr)) (fun i _ _ => q - (intOf i).toNat)
  case atStart => exact ⟨0, none, 0, [], Nat.zero_le _, rfl, rfl, hidm_ rfl, hidm_ (fun _ h => by cases h), hidm_ (OwnG.nil_ _ _ _), I2, U2⟩
  case round =>
    obtain ⟨k, A', c', L, hk, rfl, rfl, HL, HS, HO, HI, HU⟩ := hrel
    by_cases hlt : k < q
    · have tl : (k : Int) < (q : Int) := by omega
      clear I2 U2
      obtain ⟨lk, hlk⟩ : ∃ x, (rdF rowF k l1 e1).2.1 = x := ⟨_, rfl⟩
      obtain ⟨ek, hek⟩ : ∃ x, (rdF rowF k l1 e1).2.2 = x := ⟨_, rfl⟩
      obtain ⟨ms, hms⟩ : ∃ x, (rdF rowF k l1 e1).1 = x := ⟨_, rfl⟩
      have HML := hidm_ (show ms.length = k by rw [← hms]; exact rdF_len l1 e1 k)
      rw [hlk, hek] at HI
      have ci := row_t wr gi lk ek F HI.out (HSZ.out wr HU.out) (by rw [← hlk]; have := rdF_le (f := rowF) rowF_le l1 e1 k; have := LL.out; have := HMM.out; omega)
      obtain ⟨z, l2, e2, hz⟩ : ∃ a b c, rowF lk ek = (a, b, c) := ⟨_, _, _, rfl⟩
      have HR1 := hidm_ (show rdF rowF (k + 1) l1 e1 = (ms ++ [z], l2, e2) from rdF_succ (by rw [← hms, ← hlk, ← hek]) hz)
      rw [hz] at ci
      unfold ItP at ci
      simp only at ci
      unfold IN at ci
      have LT := hidm_ HO.out.lt
      have HL2 := hidm_ (HL.out.trans hms)
      clear hlk hek hms hz
      go_wp2_with (first
        | (go_at_call 38; ((with_reducible refine ci.mono ?_); clear ci; rintro e w5 ⟨_, rfl, ⟨A8, c8, rfl, hO8⟩, hI5, hU5⟩; have I5 := hidm_ hI5; have U5 := hidm_ hU5; have O5 := hidm_ (HO.out.keep U5.out (fun k hk hm => by have h9 := List.mem_singleton.1 hm; have := (LT.out k hk).1; have := HGI.out; omega)); have OS5 := hidm_ (os_snoc (P := fun q : KrA => Own8 w5 w.heap.size (.slice q.sa q.r.set.length q.sc) q.r.set) (x := (⟨z, A8, c8⟩ : KrA)) (fun q hq => (HS.out q hq).unt U5.out (fun k hk => by rw [List.mem_singleton.1 hk]; exact HGI.out)) (hO8.lower HU.out.size)); clear hO8; clear hI5 hU5; obtain ⟨w6, hw6⟩ : ∃ x, w5.alloc (.cells (krC ⟨⟨pad32 z.key, z.set⟩, A8, c8⟩).toArray 41) = x := ⟨_, rfl⟩; have B6 := hidm_ (show Below w5.heap.size w5 w6 by rw [← hw6]; exact (Below.refl _ _).alloc (Nat.le_refl _) _); have K6 := hidm_ (show Bk w6 w5.heap.size 41 (krE.c ⟨z, A8, c8⟩).toArray by rw [← hw6]; exact Bk.new w5 _ _); have RA := hidm_ (RdG.of_block K6.out K6.out.lt); have O6 := hidm_ (O5.out.below B6.out (Nat.le_refl _))))
        | (refine wpList_oneG krE Tryd.underlying43 infoKr (by decide) rfl (.tmp 13) rfl (krC ⟨⟨pad32 z.key, z.set⟩, A8, c8⟩).toArray rfl ⟨z, A8, c8⟩ rfl ?_; rw [hw6])
        | (refine wpList_appG rfl (.tmp 11) (.tmp 14) rfl Tryd.underlying43 infoKr O6.out rfl 1 1 rfl RA.out rfl (by have := HML.out; have := q255; have h9 := congrArg List.length HL.out; rw [List.length_map, rdF_len] at h9; rw [h9]; omega) (by decide) (Nat.le_trans HU.out.size (Nat.le_trans U5.out.size B6.out.size)) ?_; intro A2 c2 w7 k1 k2 k3; rw [show L.length = k from by have := congrArg List.length HL.out; rw [List.length_map, rdF_len] at this; exact this] at k1 k3 ⊢; have O7 := hidm_ k1; have I7 := hidm_ ((I5.out.unt B6.out).grownI k2 HF.out (fun j hj => (O6.out.lt j hj).1)); have U7 := hidm_ (((HU.out.trans (Grew.refl _ _) U5.out).trans (Grew.refl _ _) (Untouched.of_below (F := [gi]) B6.out)).grownU k2 (fun j hj => (O6.out.lt j hj).1)); have OS7 := hidm_ (show ∀ q ∈ L ++ [(⟨z, A8, c8⟩ : KrA)], Own8 w7 w.heap.size (.slice q.sa q.r.set.length q.sc) q.r.set from fun q hq => ((OS5.out q hq).below B6.out (Nat.le_refl _)).row_apart O6.out (by decide) k2); clear k1 k2 k3))
      go_roundw
      case rel => exact ⟨k + 1, A2, c2, L ++ [⟨z, A8, c8⟩], by omega, by go_num, rfl, hidm_ (by rw [HR1.out, List.map_append, HL2.out]; rfl), OS7, O7, hidm_ (by rw [HR1.out]; exact I7.out), U7⟩
      case measure => simp [intOf]; omega
    · have tl : ¬ (k : Int) < (q : Int) := by omega
      obtain rfl : k = q := by omega
      clear I2 U2
      go_wp2
      go_ret
      exact ⟨A', k, c', rfl, L, HL.out, HO.out, HS.out, HI.out, HU.out⟩
end Go.Proofs.YtegfnlnbhhmkjaaDoor
