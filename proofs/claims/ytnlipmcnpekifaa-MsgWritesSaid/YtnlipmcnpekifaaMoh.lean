/-
  What takes a message's parts: at, fixed.
-/
import Derived.Test.YtnlipmcnpekifaaMoe
namespace Go.Proofs.Ytnlipmcnpekifaa
set_option maxRecDepth 100000
open Go.RowKit
set_option linter.unusedVariables false
set_option linter.unusedSimpArgs false

theorem fixS_32 {l : List UInt8} {e : Int} {K r : List UInt8} {er : Int} (h : fixS 32 l e = (K, r, er)) : K = [] ∨ K.length = 32 := by
  unfold fixS at h
  split at h
  · injection h with h _; exact .inl h.symm
  · split at h
    · injection h with h _; exact .inl h.symm
    · injection h with h _
      refine .inr ?_
      rename_i _ h2
      rw [← h, List.length_take]
      have : (32 : Int).toNat = 32 := rfl
      rw [this]
      omega
theorem copy32 (K : List UInt8) (hK : K.length = 32) : ((rowOf (zbytes 32)).toList.take 0 ++ (rowOf K).toList ++ (rowOf (zbytes 32)).toList.drop (0 + (rowOf K).toList.length)).toArray = rowOf K := by
  rw [row_laid]
  unfold laid
  rw [hK, List.take_zero, List.nil_append, List.drop_eq_nil_of_le (by rw [zbytes_len]; omega), List.append_nil]
theorem step_copy0m {ops : Array Oper} {o : Oper} {a : Act} {w : World} {Q : Exit → Act → World → Prop} {K : Act → World → Prop} {E : Prop} (hgd : o.guard = none) (d x : Operand) (ho : o.op = .call { callee := .builtin .copy, args := #[d, x], argTypes := #[30, 30] })
    (dv : Option Addr) (dl dc : Nat) (hd : a.eval d = .slice dv dl dc) (A : Option Addr) (c : Nat) (hx : a.eval x = .slice A 0 c)
    (hK : K (a.put o.dst (.int .i64 0)) w) :
    if Region.wanted o (yielded ops a.tmps) = true then Oper.wp Try.prog o a w K Q else E := by
  have hw : Region.wanted o (yielded ops a.tmps) = true := by simp [Region.wanted, hgd]
  rw [if_pos hw]
  have hrun := run_copy_none (P := Try.prog) w 30 30 o.type 5 dv A dl dc 0 c Try.underlying30 (by kernel_rfl) (Nat.zero_min _)
  unfold Oper.wp execOp
  simp only [ho, resolve, invoke, builtin, Sem.run_bind, Sem.run_pure, Result.andThen_ok, List.map_toArray, List.map_cons, List.map_nil, hd, hx, hrun]
  exact hK
theorem results_cellM {P : Program} {fn : Func} {p : Tmp} {ty : TypeId} (h : fn.results = #[.cell p ty]) (tmps : Array Value) (w : World) (g : Nat) {v : Value}
    (hp : tmps.getD p undef = .pointer (some ⟨g, 0, none⟩)) (h1 : (loadVar ty ⟨g, 0, none⟩).run P w = .ok v w) :
    (results fn tmps).run P w = .ok v w := by
  have hp' : tmps[p]?.getD undef = .pointer (some ⟨g, 0, none⟩) := by simpa using hp
  simp [results, h, hp', asAddr, h1]
/-- What an item is taken to. -/
def ItP (w : World) (gi : Nat) (F : List Nat) (r : List UInt8 × Int) (V : Value → World → Prop) (e : Ending) (w' : World) : Prop :=
  ∃ v, e = .returned v ∧ V v w' ∧ InF w' gi r.1 r.2 F ∧ Untouched [gi] w w'
def IN (gi : Nat) : Value := .agg #[.pointer (some ⟨gi, 0, none⟩)]
theorem InF.lt {w : World} {gi : Nat} {l : List UInt8} {e : Int} {F : List Nat} (h : InF w gi l e F) : gi ∈ F ∧ gi < w.heap.size := by
  obtain ⟨a, A, c, hb, _⟩ := h
  exact ⟨a, hb.lt⟩
set_option maxRecDepth 100000 in
set_option maxHeartbeats 2000000 in
theorem at_t (w : World) (gi : Nat) (l : List UInt8) (er : Int) (F : List Nat) (h : InF w gi l er F) (hF : ∀ k ∈ F, k < w.heap.size) :
    Calls Try.prog 37 #[IN gi] w (ItP w gi F (atF l er).2 (fun v _ => v = .int .i64 (atF l er).1)) := by
  obtain ⟨w1, hw1⟩ : ∃ x, w.alloc (.cells #[.pointer (some ⟨gi, 0, none⟩)] 79) = x := ⟨_, rfl⟩
  have B1 := show Below w.heap.size w w1 by rw [← hw1]; exact (Below.refl _ _).alloc (Nat.le_refl _) _
  have HB := hidm_ B1
  have I1 := hidm_ (h.apart (G := []) (Untouched.of_below B1) (fun _ _ => by simp))
  have cn := innum_any w1 gi 255 l er F I1.out (by omega) (by omega)
  obtain ⟨v, l2, e2, hv⟩ : ∃ a b c, numS 8 255 l er = (a, b, c) := ⟨_, _, _, rfl⟩
  unfold NumP at cn
  rw [hv] at cn
  simp only at cn
  unfold atF IN
  rw [hv]
  have hcP : w1.cell? ⟨w.heap.size, 0, none⟩ = some (.pointer (some ⟨gi, 0, none⟩)) := (show Bk w1 w.heap.size 79 #[.pointer (some ⟨gi, 0, none⟩)] by rw [← hw1]; exact Bk.new w _ _).cell 0
  clear h hv
  go_enter Try.func37, Try.ntmps37
  go_wp2_with (go_at_call 33; ((with_reducible refine cn.mono ?_); clear cn; rintro e w2 ⟨rfl, h1, h2⟩; have H1 := hidm_ h1; have H2 := hidm_ h2; clear h1 h2))
  go_ret
  exact ⟨_, rfl, rfl, H1.out, (Untouched.of_below (F := [gi]) HB.out).trans (Grew.refl _ _) H2.out⟩
set_option maxRecDepth 100000 in
set_option maxHeartbeats 4000000 in
theorem fixed_t (w : World) (gi : Nat) (l : List UInt8) (er : Int) (F : List Nat) (h : InF w gi l er F) (hF : ∀ k ∈ F, k < w.heap.size) (hm : l.length ≤ 140737488355328) :
    Calls Try.prog 35 #[IN gi] w (ItP w gi F (digF l er).2 (fun v _ => v = .agg (rowOf (pad32 (digF l er).1)))) := by
  obtain ⟨g, hg⟩ : ∃ g, w.heap.size = g := ⟨_, rfl⟩
  obtain ⟨w1, hw1⟩ : ∃ x, w.alloc (.cells #[.pointer (some ⟨gi, 0, none⟩)] 79) = x := ⟨_, rfl⟩
  obtain ⟨w2, hw2⟩ : ∃ x, w1.alloc (.cells (rowOf (zbytes 32)) 34) = x := ⟨_, rfl⟩
  obtain ⟨w3, hw3⟩ : ∃ x, w2.alloc (.cells (rowOf (zbytes 32)) 34) = x := ⟨_, rfl⟩
  have B1 := show Below w.heap.size w w1 by rw [← hw1]; exact (Below.refl _ _).alloc (Nat.le_refl _) _
  have S1 : w1.heap.size = g + 1 := by rw [← hw1, ← hg]; simp
  have B2 := show Below w1.heap.size w1 w2 by rw [← hw2]; exact (Below.refl _ _).alloc (Nat.le_refl _) _
  have S2 : w2.heap.size = g + 2 := by rw [← hw2]; simp [S1]
  have B3 := show Below w2.heap.size w2 w3 by rw [← hw3]; exact (Below.refl _ _).alloc (Nat.le_refl _) _
  have S3 : w3.heap.size = g + 3 := by rw [← hw3]; simp [S2]
  have P3 := hidm_ (show Bk w3 g 79 #[.pointer (some ⟨gi, 0, none⟩)] by
    have h0 : Bk w1 g 79 #[.pointer (some ⟨gi, 0, none⟩)] := by rw [← hw1, ← hg]; exact Bk.new w _ _
    exact (h0.below B2 h0.lt).below B3 (by omega))
  have R3 := hidm_ (show Bk w3 (g + 1) 34 (rowOf (zbytes 32)) by
    have h0 : Bk w2 (g + 1) 34 (rowOf (zbytes 32)) := by rw [← hw2, ← S1]; exact Bk.new w1 _ _
    exact h0.below B3 (by omega))
  have V3 := hidm_ (show Bk w3 (g + 2) 34 (rowOf (zbytes 32)) by rw [← hw3, ← S2]; exact Bk.new w2 _ _)
  have X3 := hidm_ (B1.trans ((B2.mono (by omega)).trans (B3.mono (by omega))))
  have HF := hidm_ (show ∀ k ∈ F, k < g from fun k hk => by have := hF k hk; omega)
  have I3 := h.apart (G := []) (Untouched.of_below X3.out) (fun _ _ => by simp)
  have I3d := hidm_ (I3.apart (G := []) (Untouched.drewN 1) (fun _ _ => by simp) : InF w3.drew gi l er F)
  have HGI := hidm_ (HF.out gi I3.lt.1)
  have cf9 := infixed_any w3.drew gi 32 l er F I3d.out hm
  obtain ⟨K, l2, e2, hv⟩ : ∃ a b c, fixS 32 l er = (a, b, c) := ⟨_, _, _, rfl⟩
  have HK := fixS_32 hv
  unfold FixP at cf9
  rw [hv] at cf9
  simp only at cf9
  unfold digF IN
  rw [hv]
  have hz := z32m
  have sl := fun W => slice_all32m (g + 2) 0 W
  have i3 := hidm_ (fun (K : List UInt8) (h : K.length = 32) => i32m K h)
  have hcP := P3.out.cell 0
  have HG := hidm_ hg
  have HF2 := hidm_ HF.out
  clear h hF hv I3 B1 B2 B3
  go_enter Try.func35, Try.ntmps35
  go_upto_region 2 with fail
  clear hw1 hw2 hw3 S1 S2 hg hz
  rcases HK with rfl | hK
  · go_region_law (first
      | (refine step_copy0m rfl (.tmp 4) (.tmp 7) rfl (some ⟨g + 2, 0, none⟩) 32 32 rfl A8 c8 rfl ?_)
      | (go_simp; go_at_call 60; ((with_reducible refine cf9.mono ?_); clear cf9; rintro e w8 ⟨⟨A8, m8, c8, rfl, hm8, hO8⟩, hI8, hU8⟩; obtain rfl : m8 = 0 := hm8; have I8 := hidm_ hI8; have U8 := hidm_ hU8; clear hI8 hU8 hO8)))
    all_goals
      have V9 := V3.out.drewN 1 |>.untouched U8.out (by simp; have := HGI.out; omega)
      have R9 := R3.out.drewN 1 |>.untouched U8.out (by simp; have := HGI.out; omega)
      have U9 := hidm_ ((Untouched.of_below (F := [gi]) X3.out).trans (Grew.refl _ _) ((Untouched.drewN (F := [gi]) 1).trans (Grew.refl _ _) U8.out))
      have hi := i3.out (zbytes 32) (zbytes_len 32)
      have h1c := bytes_one (zbytes 32)
      clear V3 R3 P3 hcP
      go_wp2_with (first
        | (refine wpList_load_row rfl 34 (.tmp 3) rfl (g + 2) rfl 34 (rowOf (zbytes 32)) (0, 0) _ V9 Try.underlying34 rfl hi ?_)
        | (refine wpList_put_row rfl 34 (.tmp 2) (.tmp 9) rfl (g + 1) (rowOf (zbytes 32)) rfl rfl 34 (rowOf (zbytes 32)) R9 hi rfl h1c ?_; intro w9 k9 g9 s9))
      have hU : Untouched [gi] w w9 := ⟨g9.os.trans U9.out.os, g9.tape.trans U9.out.tape, g9.output.trans U9.out.output, Nat.le_trans U9.out.size g9.size, fun k hk hn => (g9.block k (Nat.lt_of_lt_of_le hk U9.out.size) (fun e => by injection e with e; have := HG.out; omega)).trans (U9.out.block k hk hn)⟩
      have I9 := I8.out.apart (G := [g + 1]) ⟨g9.os, g9.tape, g9.output, g9.size, fun b hb hne => g9.block b hb (fun e => by injection e with e; exact hne (by rw [e]; simp))⟩ (fun k hk => by simp; have := HF2.out k hk; omega)
      exact bodyPost_ret (results_cellM Try.results35 _ _ (g + 1) rfl (run_loadVar_row _ _ _ _ _ (0, 0) _ k9 Try.underlying34 rfl hi)) rfl ⟨_, rfl, rfl, I9, hU⟩
  · go_region_law (first
      | (refine step_copy8 rfl (.tmp 4) (.tmp 7) rfl (g + 2) 0 32 32 rfl A8 32 c8 rfl K 32 hK (by omega) rfl w8.heap.size (O8.out.rd.1.rdn (Nat.le_refl _) (Nat.le_refl _)) 34 (rowOf (zbytes 32)) V8.out (by rw [rowOf_size, zbytes_len]; omega) ?_; intro w9 k9 g9 s9; rw [copy32 K hK] at k9)
      | (go_simp; go_at_call 60; ((with_reducible refine cf9.mono ?_); clear cf9; rintro e w8 ⟨⟨A8, m8, c8, rfl, hm8, hO8⟩, hI8, hU8⟩; obtain rfl : m8 = 32 := hm8.trans hK; clear hm8; have I8 := hidm_ hI8; have U8 := hidm_ hU8; have O8 := hidm_ hO8; have V8 := hidm_ ((V3.out.drewN 1).untouched hU8 (by simp; have := HGI.out; omega)); clear hI8 hU8 hO8)))
    all_goals
      have hU9 : Untouched [g + 2] w8 w9 := ⟨g9.os, g9.tape, g9.output, g9.size, fun b hb hne => g9.block b hb (fun e => by injection e with e; exact hne (by rw [e]; simp))⟩
      have V9 := hidm_ k9
      have R9 := hidm_ (((R3.out.drewN 1).untouched U8.out (by simp; have := HGI.out; omega)).untouched hU9 (by simp))
      have UA := hidm_ ((Untouched.of_below (F := [gi]) X3.out).trans (Grew.refl _ _) ((Untouched.drewN (F := [gi]) 1).trans (Grew.refl _ _) U8.out))
      have I9 := hidm_ (I8.out.apart hU9 (fun k hk => by simp; have := HF2.out k hk; omega))
      have U9 := hidm_ (show Untouched [gi] w w9 from ⟨g9.os.trans UA.out.os, g9.tape.trans UA.out.tape, g9.output.trans UA.out.output, Nat.le_trans UA.out.size g9.size, fun k hk hn => (g9.block k (Nat.lt_of_lt_of_le hk UA.out.size) (fun e => by injection e with e; have := HG.out; omega)).trans (UA.out.block k hk hn)⟩)
      have hi := i3.out K hK
      have h1c := bytes_one K
      have hs0 : (rowOf (zbytes 32)).size = (rowOf K).size := by rw [rowOf_size, rowOf_size, zbytes_len, hK]
      have HKK := hidm_ hK
      clear V3 R3 P3 hcP k9 g9 s9 hU9 V8 O8 hK
      go_wp2_with (first
        | (refine wpList_load_row rfl 34 (.tmp 3) rfl (g + 2) rfl 34 (rowOf K) (0, 0) _ V9.out Try.underlying34 rfl hi ?_)
        | (refine wpList_put_row rfl 34 (.tmp 2) (.tmp 9) rfl (g + 1) (rowOf K) rfl rfl 34 (rowOf (zbytes 32)) R9.out hi hs0 h1c ?_; intro wA kA gA sA))
      have hU : Untouched [gi] w wA := ⟨gA.os.trans U9.out.os, gA.tape.trans U9.out.tape, gA.output.trans U9.out.output, Nat.le_trans U9.out.size gA.size, fun k hk hn => (gA.block k (Nat.lt_of_lt_of_le hk U9.out.size) (fun e => by injection e with e; have := HG.out; omega)).trans (U9.out.block k hk hn)⟩
      have IA := I9.out.apart (G := [g + 1]) ⟨gA.os, gA.tape, gA.output, gA.size, fun b hb hne => gA.block b hb (fun e => by injection e with e; exact hne (by rw [e]; simp))⟩ (fun k hk => by simp; have := HF2.out k hk; omega)
      exact bodyPost_ret (results_cellM Try.results35 _ _ (g + 1) rfl (run_loadVar_row _ _ _ _ _ (0, 0) _ kA Try.underlying34 rfl hi)) rfl ⟨_, rfl, by rw [pad32_id HKK.out], IA, hU⟩
end Go.Proofs.Ytnlipmcnpekifaa
