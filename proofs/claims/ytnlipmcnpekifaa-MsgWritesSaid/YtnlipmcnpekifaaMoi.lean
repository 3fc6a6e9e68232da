/-
  What takes a message's parts: a row.
-/
import Derived.Test.YtnlipmcnpekifaaMoh
namespace Go.Proofs.Ytnlipmcnpekifaa
set_option maxRecDepth 100000
open Go.RowKit
set_option linter.unusedVariables false
set_option linter.unusedSimpArgs false

def RtR (g gi m base : Nat) (K s : List UInt8) : Nat → Value → World → Prop
  | 0, v, _ => v = .agg (rowOf K)
  | 1, v, _ => v = .pointer (some ⟨g, 0, none⟩)
  | 2, v, _ => v = .pointer (some ⟨gi, 0, none⟩)
  | 3, v, W => ∃ A c, v = .slice A m c ∧ Own8 W base (.slice A m c) s
  | 4, v, W => ∃ A c, v = .agg (krC ⟨⟨K, s⟩, A, c⟩).toArray ∧ Own8 W base (.slice A m c) s
  | _, _, _ => True
theorem Own8.unt {w w' : World} {base : Nat} {v : Value} {l : List UInt8} {F : List Nat} (h : Own8 w base v l) (hu : Untouched F w w') (hF : ∀ k ∈ F, k < base) : Own8 w' base v l := by
  obtain ⟨_, _, _, _, hbd⟩ := h.form
  exact h.at_ fun k hk => hu.block k (hbd k hk).2 (fun hm => by have := hF k hm; have := (hbd k hk).1; omega)
theorem RtR.keep {g gi m base j : Nat} {K s : List UInt8} {v : Value} {W W' : World} {F : List Nat} (h : RtR g gi m base K s j v W) (hu : Untouched F W W') (hF : ∀ k ∈ F, k < base) : RtR g gi m base K s j v W' := by
  unfold RtR at h ⊢
  split at h <;> first
    | (obtain ⟨A, c, e, ho⟩ := h; exact ⟨A, c, e, ho.unt hu hF⟩)
    | exact h
    | trivial
def RtS (gi gr : Nat) (F : List Nat) (K s : List UInt8) (base : Nat) (l2 : List UInt8) (e2 : Int) (l3 : List UInt8) (e3 : Int) : Nat → World → Prop
  | 0, W => InF W gi l2 e2 F ∧ Bk W gr 37 (krC kr0).toArray
  | 1, W => InF W gi l3 e3 F ∧ Bk W gr 37 (krC kr0).toArray
  | 2, W => InF W gi l3 e3 F ∧ ∃ A c, Bk W gr 37 (krC ⟨⟨K, s⟩, A, c⟩).toArray ∧ Own8 W base (.slice A s.length c) s
  | _, _ => True
theorem RtS.drew {gi gr : Nat} {F : List Nat} {K s : List UInt8} {base : Nat} {l2 : List UInt8} {e2 : Int} {l3 : List UInt8} {e3 : Int} {W : World} (h : RtS gi gr F K s base l2 e2 l3 e3 0 W) : RtS gi gr F K s base l2 e2 l3 e3 0 W.drew :=
  ⟨h.1.apart (G := []) (Untouched.drewN 1) (fun _ _ => by simp), h.2⟩
set_option maxRecDepth 100000 in
theorem builtKr32 (a0 a1 a2 a3 a4 a5 a6 a7 a8 a9 a10 a11 a12 a13 a14 a15 a16 a17 a18 a19 a20 a21 a22 a23 a24 a25 a26 a27 a28 a29 a30 a31 : UInt8) (A : Option Addr) (n c : Nat) : Try.prog.built 37 [(0, .agg (rowOf [a0, a1, a2, a3, a4, a5, a6, a7, a8, a9, a10, a11, a12, a13, a14, a15, a16, a17, a18, a19, a20, a21, a22, a23, a24, a25, a26, a27, a28, a29, a30, a31])), (1, .slice A n c)] = some ((rowOf [a0, a1, a2, a3, a4, a5, a6, a7, a8, a9, a10, a11, a12, a13, a14, a15, a16, a17, a18, a19, a20, a21, a22, a23, a24, a25, a26, a27, a28, a29, a30, a31]).toList ++ [Value.slice A n c]).toArray := by kernel_rfl
theorem builtKr (K s : List UInt8) (hK : K.length = 32) (A : Option Addr) (n c : Nat) (hn : s.length = n) : Try.prog.built 37 [(0, .agg (rowOf K)), (1, .slice A n c)] = some (krC ⟨⟨K, s⟩, A, c⟩).toArray := by
  subst hn
  match K, hK with
  | [a0, a1, a2, a3, a4, a5, a6, a7, a8, a9, a10, a11, a12, a13, a14, a15, a16, a17, a18, a19, a20, a21, a22, a23, a24, a25, a26, a27, a28, a29, a30, a31], _ => exact builtKr32 a0 a1 a2 a3 a4 a5 a6 a7 a8 a9 a10 a11 a12 a13 a14 a15 a16 a17 a18 a19 a20 a21 a22 a23 a24 a25 a26 a27 a28 a29 a30 a31 A s.length c
theorem step_builtM {P : Program} {ops : Array Oper} {o : Oper} {a : Act} {w : World} {K : Act → World → Prop} {Q : Exit → Act → World → Prop} {E : Prop} (hw : Region.wanted o (yielded ops a.tmps) = true) (t : TypeId) (parts : Array (Nat × Operand)) (ho : o.op = .build t parts) (X : Array Value)
    (hf : P.built t (parts.map fun (i, x) => (i, a.eval x)).toList = some X) (hk : K (a.put o.dst (.agg X)) w) : if Region.wanted o (yielded ops a.tmps) = true then Oper.wp P o a w K Q else E := by
  refine step_run hw (v := .agg X) (w' := w) ?_ hk
  have h := run_build (P := P) w t (parts.map fun (i, x) => (i, a.eval x)) X hf
  unfold execOp
  simp only [ho, Sem.run_bind, Sem.run_pure, h, Result.andThen_ok]
set_option maxRecDepth 100000 in
set_option maxHeartbeats 4000000 in
theorem row_t (w : World) (gi : Nat) (l : List UInt8) (er : Int) (F : List Nat) (h : InF w gi l er F) (hF : ∀ k ∈ F, k < w.heap.size) (hm : l.length ≤ 140737488355328) :
    Calls Try.prog 34 #[IN gi] w (ItP w gi F (rowF l er).2 (fun v W => ∃ A c, v = .agg (krC ⟨⟨pad32 (rowF l er).1.key, (rowF l er).1.set⟩, A, c⟩).toArray ∧ Own8 W w.heap.size (.slice A (rowF l er).1.set.length c) (rowF l er).1.set)) := by
  obtain ⟨g, hg⟩ : ∃ g, w.heap.size = g := ⟨_, rfl⟩
  obtain ⟨w1, hw1⟩ : ∃ x, w.alloc (.cells #[.pointer (some ⟨gi, 0, none⟩)] 79) = x := ⟨_, rfl⟩
  obtain ⟨w2, hw2⟩ : ∃ x, w1.alloc (.cells (krC kr0).toArray 37) = x := ⟨_, rfl⟩
  have B1 := show Below w.heap.size w w1 by rw [← hw1]; exact (Below.refl _ _).alloc (Nat.le_refl _) _
  have S1 : w1.heap.size = g + 1 := by rw [← hw1, ← hg]; simp
  have B2 := show Below w1.heap.size w1 w2 by rw [← hw2]; exact (Below.refl _ _).alloc (Nat.le_refl _) _
  have S2 : w2.heap.size = g + 2 := by rw [← hw2]; simp [S1]
  have P2 := hidm_ (show Bk w2 g 79 #[.pointer (some ⟨gi, 0, none⟩)] by
    have h0 : Bk w1 g 79 #[.pointer (some ⟨gi, 0, none⟩)] := by rw [← hw1, ← hg]; exact Bk.new w _ _
    exact h0.below B2 h0.lt)
  have R2 := hidm_ (show Bk w2 (g + 1) 37 (krC kr0).toArray by rw [← hw2, ← S1]; exact Bk.new w1 _ _)
  have X2 := hidm_ (B1.trans (B2.mono (by omega)))
  have HF := hidm_ (show ∀ k ∈ F, k < g from fun k hk => by have := hF k hk; omega)
  have I2 := hidm_ (h.apart (G := []) (Untouched.of_below X2.out) (fun _ _ => by simp))
  have HGI := hidm_ (HF.out gi I2.out.lt.1)
  obtain ⟨K0, l2, e2, hv⟩ : ∃ a b c, fixS 32 l er = (a, b, c) := ⟨_, _, _, rfl⟩
  obtain ⟨s, l3, e3, hv2⟩ : ∃ a b c, bytS 1048576 l2 e2 = (a, b, c) := ⟨_, _, _, rfl⟩
  have L2 := hidm_ (show l2.length ≤ 140737488355328 by have := fixS_le 32 l er; rw [hv] at this; exact Nat.le_trans this hm)
  have cf := fixed_t w2 gi l er F I2.out (fun k hk => by have := HF.out k hk; omega) hm
  rw [rowF_of hv hv2]
  unfold digF IN at cf
  rw [hv] at cf
  simp only at cf ⊢
  unfold IN
  obtain ⟨K, hKe⟩ : ∃ K, pad32 K0 = K := ⟨_, rfl⟩
  rw [hKe] at cf ⊢
  have KL := hidm_ (show K.length = 32 by rw [← hKe]; exact pad32_len K0)
  have HV := hidm_ hv2
  obtain ⟨m, hme⟩ : ∃ m, s.length = m := ⟨_, rfl⟩
  have HM := hidm_ hme
  have hz := z32m
  have hz2 := z33m
  have i3 := i32m K KL.out
  have h1c := bytes_one K
  have hs0 : (rowOf (zbytes 32)).size = (rowOf K).size := by rw [rowOf_size, rowOf_size, zbytes_len, KL.out]
  have i33 := hidm_ (fun (A : Option Addr) (c : Nat) => i33m ⟨⟨K, s⟩, A, c⟩ KL.out)
  have hcP := P2.out.cell 0
  have HG := hidm_ hg
  have HS2 := hidm_ S2
  clear h hF hv hv2 B1 B2 hKe hm hme
  go_enter Try.func34, Try.ntmps34
  go_upto_region 2 with (first
    | (refine wpList_load_row rfl 79 (.tmp 1) rfl g rfl 79 #[.pointer (some ⟨gi, 0, none⟩)] (0, 0) _ P2.out Try.underlying79 rfl (by kernel_rfl) ?_)
    | (go_at_call 35; ((with_reducible refine cf.mono ?_); clear cf; rintro e w3 ⟨_, rfl, rfl, hI3, hU3⟩; have I3 := hidm_ hI3; have U3 := hidm_ hU3; clear hI3 hU3))
    | (refine wpList_put_row rfl 34 (.tmp 3) (.tmp 5) rfl w3.heap.size (rowOf K) rfl rfl 34 (rowOf (zbytes 32)) (Bk.new w3 _ _) i3 hs0 h1c ?_; intro w4 k4 g4 s4; have V4 := hidm_ k4; have B4 := hidm_ (show Below w3.heap.size w3 w4 from ((Below.refl w3.heap.size w3).alloc (Nat.le_refl _) _).grown g4 (by simp) (fun j hj => by injection hj with hj; omega)); have S4 := hidm_ (show w4.heap.size = w3.heap.size + 1 by rw [s4]; simp); clear k4 g4 s4))
  clear hw1 hw2 S1 S2 hg hz hz2 hs0 hcP
  obtain ⟨gk, hgk⟩ : ∃ x, w3.heap.size = x := ⟨_, rfl⟩
  have HK3 := hidm_ (show g + 2 ≤ gk by rw [← hgk]; have := U3.out.size; have := HS2.out; omega)
  have BK4 := hidm_ (show Bk w4 gk 34 (rowOf K) by rw [← hgk]; exact V4.out)
  have SZ4 := hidm_ (show w4.heap.size = gk + 1 by rw [← hgk]; exact S4.out)
  have P4 := hidm_ ((P2.out.untouched U3.out (by simp; have := HGI.out; omega)).below B4.out (by rw [hgk]; have := HK3.out; omega))
  have Q0 := hidm_ (show RtS gi (g + 1) F K s (gk + 1) l2 e2 l3 e3 0 w4 from ⟨I3.out.apart (G := []) (Untouched.of_below B4.out) (fun _ _ => by simp), (R2.out.untouched U3.out (by simp; have := HGI.out; omega)).below B4.out (by rw [hgk]; have := HK3.out; omega)⟩)
  have U4 := hidm_ (((Untouched.of_below (F := [gi]) X2.out).trans (Grew.refl _ _) U3.out).trans (Grew.refl _ _) (Untouched.of_below (F := [gi]) B4.out))
  rename_i K9 hK9
  simp only [hgk]
  clear P2 R2 X2 I2 I3 U3 V4 B4 S4 hgk
  refine region_byJF [6, 7, 8, 9, 10] (fun W => Untouched [gi, g + 1] w4 W) (fun W W2 => Untouched [gi, g + 1] W W2) (RtR g gi m (gk + 1) K s) (fun D _ W => ChJ [3, 5] (RtS gi (g + 1) F K s (gk + 1) l2 e2 l3 e3) D W) (by kernel_rfl) (by kernel_rfl) (by kernel_rfl) (by kernel_rfl) (fun j v w w' hT hr => RtR.keep hr hT (by have := HGI.out; have := HK3.out; simp; omega)) (fun j v w hlt hj _ => ?_) (Untouched.drewN 1) ?_ (ChJ.start Q0.out.drew) ?_
  · rcases j with _ | _ | _ | _ | _ | _ | j
    all_goals first
      | (exfalso; simp [dstOf] at hj; done)
      | trivial
  · refine ⟨fun D a9 W hC hd hsz hf hv hJ hL hW K8 hK => ?_, fun D a9 W hC hd hsz hf hv hJ hL hW K8 hK => ?_, fun D a9 W hC hd hsz hf hv hJ hL hW K8 hK => ?_, fun D a9 W hC hd hsz hf hv hJ hL hW K8 hK => ?_, fun D a9 W hC hd hsz hf hv hJ hL hW K8 hK => ?_, fun D a9 W hC hd hsz hf hv hJ hL hW K8 hK => ?_, trivial⟩
    · clear hsz
      have eS1_ := slot_of (a := a9) (s := 3) (v := .pointer (some ⟨gk, 0, none⟩)) (hf 3 (by kernel_rfl))
      refine step_load_row rfl 34 (.tmp 3) rfl gk (eval_of (hf 3 (by kernel_rfl))) 34 (rowOf K) (BK4.out.untouched hC (by have := HGI.out; have := HK3.out; simp; omega)) _ Try.underlying34 rfl i3 (hK _ _ hC (Untouched.refl _ _) rfl (hJ.same 0 (by decide)))
    · clear hsz
      have eS1_ := slot_of (a := a9) (s := 1) (v := .pointer (some ⟨g, 0, none⟩)) (hf 1 (by kernel_rfl))
      refine step_run (wanted_none rfl) (v := .pointer (some ⟨g, 0, none⟩)) (w' := W) ?_ (hK _ _ hC (Untouched.refl _ _) rfl (hJ.same 1 (by decide)))
      go_simp
    · clear hsz
      have eS1_ := slot_of (a := a9) (s := 7) (v := .pointer (some ⟨g, 0, none⟩)) (hv 1 (by kernel_rfl))
      have hcp : W.cell? ⟨g, 0, none⟩ = some (.pointer (some ⟨gi, 0, none⟩)) := (P4.out.untouched hC (by have := HGI.out; simp; omega)).cell 0
      refine step_run (wanted_none rfl) (v := .pointer (some ⟨gi, 0, none⟩)) (w' := W) ?_ (hK _ _ hC (Untouched.refl _ _) rfl (hJ.same 2 (by decide)))
      go_simp
    · clear hsz
      have eS1_ := slot_of (a := a9) (s := 8) (v := .pointer (some ⟨gi, 0, none⟩)) (hv 2 (by kernel_rfl))
      obtain ⟨⟨hI0, hR0⟩, hd⟩ := hJ.at_ 0 (by decide) hL (fun j hj e => by omega)
      refine step_callx 59 #[.pointer (some ⟨gi, 0, none⟩), .int .i64 1048576] (wanted_none rfl) (w' := W) ?_ ((inbytes_any W gi 1048576 l2 e2 F hI0 L2.out (by omega) (by omega)).mono fun e W2 hh => ?_)
      · go_simp
      · obtain ⟨⟨A, m8, c, rfl, hm8, hO⟩, hI, hU⟩ := hh
        have hHV : fixS (numS 4 1048576 l2 e2).1 (numS 4 1048576 l2 e2).2.1 (numS 4 1048576 l2 e2).2.2 = (s, l3, e3) := HV.out
        rw [hHV] at hm8 hO hI
        obtain rfl : m8 = m := hm8.trans HM.out
        have hU2 : Untouched [gi, g + 1] W W2 := ⟨hU.os, hU.tape, hU.output, hU.size, fun k hk hn => hU.block k hk (fun hm => hn (by rw [List.mem_singleton.1 hm]; simp))⟩
        have hO2 : Own8 W2 (gk + 1) (.slice A m8 c) s := hO.lower (by have := hC.size; have := SZ4.out; omega)
        exact ⟨_, rfl, hK _ _ (hC.trans (Grew.refl _ _) hU2) hU2 ⟨A, c, rfl, hO2⟩ (ChJ.next 0 (by decide) (by decide) hd ⟨hI, hR0.untouched hU (by have := HGI.out; simp; omega)⟩)⟩
    · clear hsz
      have eS1_ := slot_of (a := a9) (s := 6) (v := .agg (rowOf K)) (hv 0 (by kernel_rfl))
      obtain ⟨A, c, ev, ho⟩ := hv 3 (by kernel_rfl)
      have eA_ := eval_of (a := a9) (s := 9) ev
      have eB_ := eval_of (a := a9) (s := 6) (v := .agg (rowOf K)) (hv 0 (by kernel_rfl))
      refine step_builtM (wanted_none rfl) 37 #[(0, .tmp 6), (1, .tmp 9)] rfl (krC ⟨⟨K, s⟩, A, c⟩).toArray ?_ ?_
      · simp only [List.map_toArray, List.map_cons, List.map_nil, eA_, eB_]
        exact builtKr K s KL.out A m c HM.out
      · exact hK _ _ hC (Untouched.refl _ _) ⟨A, c, rfl, ho⟩ (hJ.same 4 (by decide))
    · clear hsz
      have eS1_ := slot_of (a := a9) (s := 2) (v := .pointer (some ⟨g + 1, 0, none⟩)) (hf 2 (by kernel_rfl))
      obtain ⟨A, c, ev, ho⟩ := hv 4 (by kernel_rfl)
      obtain ⟨⟨hI1, hR1⟩, hd⟩ := hJ.at_ 1 (by decide) hL (fun j hj e => by have hj0 : j = 0 := (by omega); subst hj0; exact hW 3 (by kernel_rfl))
      refine step_put_row rfl 37 (.tmp 2) (.tmp 10) rfl (g + 1) (krC ⟨⟨K, s⟩, A, c⟩).toArray (eval_of (hf 2 (by kernel_rfl))) (eval_of ev) 37 (krC kr0).toArray hR1 (i33.out A c) (by rw [List.size_toArray, List.size_toArray, krC_len kr0 rfl, krC_len ⟨⟨K, s⟩, A, c⟩ KL.out]) (krC_one _) ?_
      intro wz kz gz sz
      have hUz : Untouched [gi, g + 1] W wz := ⟨gz.os, gz.tape, gz.output, gz.size, fun k hk hn => gz.block k hk (fun e => by injection e with e; exact hn (by rw [e]; simp))⟩
      have hUy : Untouched [g + 1] W wz := ⟨gz.os, gz.tape, gz.output, gz.size, fun k hk hn => gz.block k hk (fun e => by injection e with e; exact hn (by rw [e]; simp))⟩
      have ho2 : Own8 wz (gk + 1) (.slice A s.length c) s := by rw [HM.out]; exact ho.unt hUz (by have := HGI.out; have := HK3.out; simp; omega)
      exact hK undef _ (hC.trans (Grew.refl _ _) hUz) hUz trivial (ChJ.next 1 (by decide) (by decide) hd ⟨hI1.apart hUy (fun k hk => by have := HF.out k hk; simp; omega), A, c, kz, ho2⟩)
  · intro f w6 hC6 hv6 D6 hD6 hJ6
    obtain ⟨a6, hJ, _⟩ := hJ6
    obtain ⟨hI6, A, c, hB6, hO6⟩ := hJ.last 1 (by decide) rfl (hD6 5 (by decide))
    have H6 := hidm_ hI6
    have B6 := hidm_ hB6
    have O6 := hidm_ hO6
    have U6 := hidm_ (show Untouched [gi, g + 1] w4 w6 from hC6)
    clear hv6 hD6 hJ hC6 hI6 hB6 hO6
    simp only [framed, List.foldl_cons, List.foldl_nil, List.setIfInBounds_toArray, List.set_cons_succ, List.set_cons_zero]
    have hU : Untouched [gi] w w6 := ⟨U6.out.os.trans U4.out.os, U6.out.tape.trans U4.out.tape, U6.out.output.trans U4.out.output, Nat.le_trans U4.out.size U6.out.size, fun k hk hn => (U6.out.block k (Nat.lt_of_lt_of_le hk U4.out.size) (by have := HG.out; simp at hn ⊢; exact ⟨hn, by omega⟩)).trans (U4.out.block k hk hn)⟩
    refine hK9 _ _ ?_
    go_wp2
    exact bodyPost_ret (results_cellM Try.results34 _ _ (g + 1) rfl (run_loadVar_row _ _ _ _ _ (0, 0) _ B6.out Try.underlying37 rfl (i33.out A c))) rfl ⟨_, rfl, ⟨A, c, rfl, O6.out.lower (by have := HG.out; have := HK3.out; omega)⟩, H6.out, hU⟩
end Go.Proofs.Ytnlipmcnpekifaa
