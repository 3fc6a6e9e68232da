/-
  A disk: Sync, Image.
-/
import Derived.Test.YtibnfldddpmafaaDkg
namespace Go.Proofs.Ytibnfldddpmafaa
open Go.RowKit
set_option linter.unusedVariables false
set_option linter.unusedSimpArgs false

section
variable {b0 : Nat} {w : World} {p q n : Nat} {F : List (List UInt8)} {R : List WrV} {fu : Nat} {off : Bool}
set_option maxRecDepth 100000 in
set_option maxHeartbeats 1000000 in
theorem dsync_off (h : DkI b0 w p q n F R fu true) : Calls Try.prog 14 #[.pointer (some ⟨p, 0, none⟩)] w fun e w' => e = .returned (.int .i64 9) ∧ w = w' := by
  have ci := powered_any h
  rw [if_pos rfl] at ci
  clear h
  go_enter Try.func14, Try.ntmps14
  go_wp2_with (go_at_call 29; ((with_reducible refine ci.mono ?_); clear ci; rintro e w' ⟨rfl, rfl⟩))
  go_ret
  exact ⟨rfl, rfl⟩
set_option maxRecDepth 100000 in
set_option maxHeartbeats 1000000 in
theorem dsync_nil (w : World) : Calls Try.prog 14 #[.pointer none] w fun e w' => e = .returned (.int .i64 1) ∧ w = w' := by
  have ci := powered_nil w
  go_enter Try.func14, Try.ntmps14
  go_wp2_with (go_at_call 29; ((with_reducible refine ci.mono ?_); clear ci; rintro e w' ⟨rfl, rfl⟩))
  go_ret
  exact ⟨rfl, rfl⟩
set_option maxRecDepth 100000 in
set_option maxHeartbeats 2000000 in
theorem dsync_burn (h : DkI b0 w p q n F R 1 false) : Calls Try.prog 14 #[.pointer (some ⟨p, 0, none⟩)] w (DkP b0 w p q n F R 0 true 9) := by
  have ci := powered_any h
  rw [if_neg (by decide)] at ci
  have cb := dburn_any h
  rw [show burnE 1 = 9 from rfl] at cb
  clear h
  go_enter Try.func14, Try.ntmps14
  go_wp2_with (first
    | (go_at_call 29; ((with_reducible refine ci.mono ?_); clear ci; rintro e w' ⟨rfl, rfl⟩))
    | (go_at_call 28; ((with_reducible refine cb.mono ?_); clear cb; rintro e w' ⟨rfl, h⟩; have H := hidD_ h; clear h)))
  go_ret
  exact ⟨rfl, H.out⟩
set_option maxRecDepth 100000 in
set_option maxHeartbeats 2000000 in
theorem dsync_ok (h : DkI b0 w p q n F R fu false) (hf : fu ≠ 1) : Calls Try.prog 14 #[.pointer (some ⟨p, 0, none⟩)] w (DkP b0 w p q n (appl F R) [] (fu - 1) false 0) := by
  have ci := powered_any h
  rw [if_neg (by decide)] at ci
  have cb := dburn_any h
  rw [show burnE fu = 0 from if_neg hf, show burnO fu false = false by simp [burnO, hf]] at cb
  clear h
  go_enter Try.func14, Try.ntmps14
  go_wp2_with (first
    | (go_at_call 29; ((with_reducible refine ci.mono ?_); clear ci; rintro e w' ⟨rfl, rfl⟩))
    | (go_at_call 28; ((with_reducible refine cb.mono ?_); clear cb; rintro e w' ⟨rfl, ⟨v, h1⟩, h2, h3⟩; have c1 := h1.cells.2.1; have f1 := h1.bp.frozen 1; have H1 := hidD_ h1.sync; have P1 := hidD_ (Bk.putD (T := dkT) h1.bp h1.hp (by simp [dkT]) 1 (.slice none 0 0)); have H2 := hidD_ h2; have H3 := hidD_ h3; clear h1 h2 h3)))
  go_ret
  exact ⟨rfl, ⟨_, H1.out⟩, H2.out.trans P1.out.1, H3.out.trans P1.out.2⟩
end
/-! Image. -/
theorem wpList_appN {ops : Array Oper} {rest : List Oper} {o : Oper} {a : Act} {w : World} {base : Nat} {v : Value} {l : List UInt8} {Q : Exit → Act → World → Prop} (hgd : o.guard = none) (s x : Operand)
    (ho : o.op = .call { callee := .builtin .append, args := #[s, x], argTypes := #[36, 36] })
    (h : Own8 w base v l) (hs : a.eval s = v) {B : Nat} {A : Option Addr} {m : List UInt8} (n c : Nat) (hx : a.eval x = .slice A n c) (hr : Rd w B A m) (hn : m.length = n)
    (nl : Nat) (hnl : l.length = nl) (hsz : nl + n ≤ 140737488355328) (hbase : base ≤ w.heap.size)
    (hK : ∀ A' c' w', Own8 w' base (.slice A' (nl + n) c') (l ++ m) → w.grownBy w' v.ownBlock → wpList Try.prog ops Q rest (a.put o.dst (.slice A' (nl + n) c')) w') : wpList Try.prog ops Q (o :: rest) a w := by
  subst hnl
  exact wpList_app hgd s x ho h hs n c hx hr hn hsz hbase fun A' c' w' h2 h3 _ => hK A' c' w' h2 h3
theorem slice_allS (g : Nat) (W : World) :
    (Instr.sliceAt 27 (.pointer (some ⟨g, 0, none⟩)) none none none).run Try.prog W = .ok (.slice (some ⟨g, 0, none⟩) 64 64) W := by
  have he : Try.prog.elem 27 = 5 := by kernel_rfl
  have hn : Try.prog.arrayLen 27 = 64 := by kernel_rfl
  have ht : Try.prog.underlying 27 = some (.array (Try.prog.arrayLen 27) (Try.prog.elem 27)) := by rw [he, hn]; exact Try.underlying27
  have hs : ∀ W : World, (sizeOf (Try.prog.elem 27)).run Try.prog W = .ok 1 W := fun W => by
    rw [he]
    obtain ⟨i, hi, hz, hsize, hby⟩ := info_parts info8
    simp [sizeOf, typeInfo, hi, hsize]
  rw [run_sliceAt_array_all W 27 ⟨g, 0, none⟩ ht, hs, hn]
  rfl
theorem flat_len {S : List (List UInt8)} (hS : ∀ D ∈ S, D.length = 64) : S.flatten.length = S.length * 64 := by
  induction S with
  | nil => rfl
  | cons D S ih =>
    rw [List.flatten_cons, List.length_append, hS D (by simp), ih (fun E hE => hS E (List.mem_cons_of_mem _ hE)), List.length_cons]
    omega
theorem flat_take {S : List (List UInt8)} (j : Nat) (h : j < S.length) : (S.take (j + 1)).flatten = (S.take j).flatten ++ S.getD j [] := by
  rw [List.take_succ_eq_append_getElem h, List.flatten_append]
  simp [List.getD, h]
section
variable {b0 : Nat} {w : World} {p q n : Nat} {F : List (List UInt8)} {R : List WrV} {fu : Nat} {off : Bool}
set_option maxRecDepth 100000 in
set_option maxHeartbeats 4000000 in
theorem dimage_any (h : DkI b0 w p q n F R fu off) : Calls Try.prog 18 #[.pointer (some ⟨p, 0, none⟩)] w fun e w' => ∃ A c, e = .returned (.slice A (n * 64) c) ∧ Own8 w' w.heap.size (.slice A (n * 64) c) (appl F R).flatten ∧ Below w.heap.size w w' := by
  have ci := made_yes h
  obtain ⟨v, hv⟩ := h
  obtain ⟨c0, _, _, _⟩ := hv.cells
  have HS64 := hidD_ hv.app64
  have HN := hidD_ (show (appl F R).length = n by rw [appl_len]; exact hv.hF)
  have BQ := hidD_ hv.bq
  have hn2 := hv.n2
  clear hv
  generalize appl F R = S at *
  go_enter Try.func18, Try.ntmps18
  go_wp2_with (go_at_call 25; ((with_reducible refine ci.mono ?_); clear ci; rintro e w' ⟨rfl, rfl⟩))
  go_loopw [3, 14] (fun v i wr => ∃ (j nl : Nat) (A' : Option Addr) (c' : Nat), j ≤ n ∧ Hid (nl = j * 64) ∧ i = .int .i64 j ∧ v = .slice A' nl c' ∧ Hid (Own8 wr w.heap.size (.slice A' nl c') (S.take j).flatten) ∧ Hid (Below w.heap.size w wr)) (fun _ i _ => n - (intOf i).toNat)
  case atStart => exact ⟨0, 0, none, 0, Nat.zero_le _, hidD_ rfl, rfl, rfl, Own8.nil_ _ _, Below.refl _ _⟩
  case round =>
    obtain ⟨j, nl, A', c', hj, hnl, rfl, rfl, HV, HBW⟩ := hrel
    by_cases hlt : j < n
    · have hjS : j < S.length := by rw [HN.out]; exact hlt
      have h64 := getD_mem64 HS64.out j hjS
      have HAT := hidD_ (sec_at HS64.out j hjS)
      have HST := hidD_ (flat_take j hjS)
      have HLN := hidD_ (show (S.take j).flatten.length = nl by rw [flat_len (fun D hD => HS64.out D (List.mem_of_mem_take hD)), List.length_take, HN.out, hnl.out]; congr 1; omega)
      generalize S.getD j [] = D at h64 HAT HST
      have HI := hidD_ (iSec D h64)
      have HD := hidD_ h64
      have BQR := hidD_ ((BQ.out).below HBW.out BQ.out.lt)
      obtain ⟨g, hg⟩ : ∃ g, wr.heap.size = g := ⟨_, rfl⟩
      have HG := hidD_ hg
      obtain ⟨wa, hwa⟩ : ∃ W, wr.alloc (.cells (rowOf zsec) 27) = W := ⟨_, rfl⟩
      have KA := hidD_ (show Bk wa g 27 (rowOf zsec) by rw [← hwa, ← hg]; exact Bk.new wr _ _)
      have BA := hidD_ (show Below wr.heap.size wr wa by rw [← hwa]; exact (Below.refl _ _).alloc (Nat.le_refl _) _)
      have hz := zeroSec wr
      have hsl := fun W => slice_allS g W
      have t0 : (0 : Int) ≤ (j : Int) := by omega
      have tn : (j : Int) < (n : Int) := by omega
      have hn8 : n ≤ 8192 := hn2
      have d1 : decide ((j : Int) < (n : Int)) = true := decide_eq_true tn
      clear h64 hjS
      go_wp2_with (first
        | (refine wpList_load_sub rfl 27 (.tmp 16) rfl q (j * 64) rfl (rowOf D) (fun i hi => (BQR.out.cell _).trans (HAT.out i hi)) _ Try.underlying27 rfl HI.out ?_)
        | (refine wpList_put_row rfl 27 (.tmp 5) (.tmp 17) rfl g (rowOf D) rfl rfl 27 (rowOf zsec) KA.out HI.out (by rw [rowOf_size, rowOf_size, HD.out]; rfl) (bytes_one _) ?_; intro w9 k9 g9 s9; have K9 := hidD_ k9; have X9 := hidD_ (BA.out.grown g9 BA.out.size (fun k e => by injection e with e; have := HG.out; omega)); clear k9 g9 s9)
        | (at_builtin; go_loud (refine wpList_appN rfl (.tmp 18) (.tmp 19) rfl (HV.out.below X9.out (Nat.le_refl _)) rfl 64 64 rfl (K9.out.rd K9.out.lt) HD.out nl HLN.out (by have := hnl.out; omega) (Nat.le_trans HBW.out.size X9.out.size) ?_); intro A6 c6 w6 k1 k2; have K1 := hidD_ k1; have K2 := hidD_ ((HBW.out.trans (X9.out.mono HBW.out.size)).grown k2 (Nat.le_trans HBW.out.size X9.out.size) (fun g e => (HV.out.lt g e).1)); clear k1 k2))
      go_roundw
      case rel => exact ⟨j + 1, nl + 64, A6, c6, by omega, hidD_ (by have := hnl.out; omega), by go_num, rfl, hidD_ (by rw [HST.out]; exact K1.out), K2⟩
      case measure => simp [intOf]; omega
    · obtain rfl : j = n := by omega
      have d1 : decide ((j : Int) < (j : Int)) = false := decide_eq_false (by omega)
      have HT := hidD_ (show S.take j = S from List.take_of_length_le (by rw [HN.out]; omega))
      rw [HT.out] at HV
      have hnl2 := hnl.out
      subst hnl2
      go_wp2
      go_ret
      exact ⟨A', c', rfl, HV.out, HBW.out⟩
set_option maxRecDepth 100000 in
set_option maxHeartbeats 1000000 in
theorem dimage_nil (w : World) : Calls Try.prog 18 #[.pointer none] w fun e w' => e = .returned (.slice none 0 0) ∧ w = w' := by
  have ci := made_nil w
  go_enter Try.func18, Try.ntmps18
  go_wp2_with (go_at_call 25; ((with_reducible refine ci.mono ?_); clear ci; rintro e w' ⟨rfl, rfl⟩))
  go_ret
  exact ⟨rfl, rfl⟩
end
end Go.Proofs.Ytibnfldddpmafaa
