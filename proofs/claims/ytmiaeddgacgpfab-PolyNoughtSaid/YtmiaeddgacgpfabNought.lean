/-
  Proved: for every key and every slice of bytes PolyNought answers true: by a key that begins with noughts each text has the key's end as its tag; of no bytes each key has it. No condition.
-/
import Derived.Test.YtmiaeddgacgpfabP7
import Derived.Test.YtmiaeddgacgpfabOa
namespace Go.Proofs.Ytmiaeddgacgpfab.polyNought
open Go.ChangeShapes Go.WideShapes Go.ChangeAt Go.RowKit
set_option linter.unusedVariables false

theorem lowB_end (l : List UInt8) (h : l.length = 16) : lowB 16 ((((leN l : Nat) : Int) % 340282366920938463463374607431768211456).toNat) = l := by
  have h1 := leN_lt l
  rw [h, show (256 : Nat) ^ 16 = 340282366920938463463374607431768211456 by decide] at h1
  have e : (((leN l : Nat) : Int) % 340282366920938463463374607431768211456).toNat = leN l := by omega
  have h2 := lowB_leN l
  rw [h] at h2
  rw [e, h2]
theorem tag_nil (key : List UInt8) (h : key.length = 32) : polyTag key [] = key.drop 16 := by
  have e : polyTag key [] = lowB 16 ((0 + ((leN (key.drop 16) : Nat) : Int)) % 340282366920938463463374607431768211456).toNat := rfl
  rw [e, Int.zero_add]
  exact lowB_end _ (by rw [List.length_drop, h])
theorem acc_zero (b : List UInt8) : ∀ k, accP 0 b k = 0
  | 0 => rfl
  | k + 1 => by rw [accP, Int.mul_zero]; rfl
/-- The key with its first k bytes noughts. -/
def lowK (key : List UInt8) (k : Nat) : List UInt8 := List.replicate k 0 ++ key.drop k
theorem lowK_len (key : List UInt8) (k : Nat) (h : k ≤ key.length) : (lowK key k).length = key.length := by simp [lowK]; omega
theorem lowK_set (key : List UInt8) (k : Nat) (h : k < key.length) : (lowK key k).set k 0 = lowK key (k + 1) := by
  unfold lowK
  rw [List.set_append_right _ _ (by simp), List.length_replicate, Nat.sub_self, List.drop_eq_getElem_cons h, List.set_cons_zero, List.replicate_succ', List.append_assoc]
  rfl
theorem lowK_end (key : List UInt8) (h : key.length = 32) : (lowK key 16).drop 16 = key.drop 16 := by
  unfold lowK
  exact List.drop_left' (by simp)
theorem lowK_begin (key : List UInt8) : (lowK key 16).take 16 = List.replicate 16 0 := by
  unfold lowK
  exact List.take_left' (by simp)
theorem tag_low (key b : List UInt8) (h : key.length = 32) : polyTag (lowK key 16) b = key.drop 16 := by
  have hf : (factN (lowK key 16)).val = 0 := by
    unfold factN
    rw [lowK_begin]
    decide +kernel
  unfold polyTag
  rw [hf, acc_zero, Int.zero_add, lowK_end key h]
  exact lowB_end _ (by rw [List.length_drop, h])

set_option maxRecDepth 100000 in
set_option maxHeartbeats 4000000 in
theorem walk (key : List UInt8) (A : Option Addr) (c : Nat) (b0 : List UInt8) (w : World) (hk : key.length = 32) (hr : Rd w w.heap.size A b0) (hc : b0.length ≤ c) (hcm : c ≤ maxLen) :
    Calls Try.prog 5 #[.agg (rowOf key), .slice A b0.length c] w fun e w' => e = .returned (.bool true) ∧ Below w.heap.size w w' := by
  have hz := z32
  have hz16 := z16
  have e32 : ∀ l : List UInt8, l.length = 32 → (Try.prog.info? 22).map (·.size) = some (rowOf l).size := fun l h => by rw [rowOf_size, h]; exact i32_
  have E32 := hid_ e32
  have e16 : ∀ l : List UInt8, l.length = 16 → (Try.prog.info? 23).map (·.size) = some (rowOf l).size := fun l h => by rw [rowOf_size, h]; exact i16_
  have E16 := hid_ e16
  obtain ⟨n, hn⟩ : ∃ n, n = min 200 b0.length := ⟨_, rfl⟩
  have hbl : Hid ((b0.take 200).length = n) := by show _ = _; rw [List.length_take, hn]
  have hmn : (if (200 : Int) < (b0.length : Int) then (200 : Int) else (b0.length : Int)) = (n : Int) := by split <;> omega
  have hnc : n ≤ c := by omega
  have hn200 : n ≤ 200 := by omega
  have hsl := slice_to A b0.length c (n : Int) n rfl hnc
  have hrb := hr.take 200
  obtain ⟨b, hb⟩ : ∃ b, Hid (b0.take 200 = b) := ⟨_, rfl⟩
  rw [hb.out] at hbl hrb
  have HK := hid_ hk
  have HR := hid_ hrb
  obtain ⟨w0, hw0⟩ : ∃ w0, Hid (w.alloc (.cells (rowOf key) 22) = w0) := ⟨_, rfl⟩
  have a0 : Bk w0 w.heap.size 22 (rowOf key) := by rw [← hw0.out]; exact Bk.new w _ _
  have x0 : Below w.heap.size w w0 := by rw [← hw0.out]; exact (Below.refl _ _).alloc (Nat.le_refl _) _
  have ct1 := tag_any key none 0 0 [] w0 hk rfl (Nat.le_refl _) (by omega) Rd.nil
  rw [tag_nil key hk] at ct1
  obtain ⟨T, hT⟩ : ∃ T, Hid (key.drop 16 = T) := ⟨_, rfl⟩
  have hTl : T.length = 16 := by rw [← hT.out, List.length_drop, hk]
  have htl := tag_low key b hk
  rw [hT.out] at ct1 htl
  have A0 := hid_ a0
  have X0 := hid_ x0
  have hl0 := a0.lt
  clear e32 e16 hn hr hrb hk a0 x0
  go_enter Try.func5, Try.ntmps5
  go_upto_region 1 with fail
  rw [hw0.out]
  go_upto_region 4 with (first
    | (refine wpList_load_row rfl 22 (.tmp 2) rfl w.heap.size rfl 22 (rowOf key) (0, 0) _ A0.out Try.underlying22 rfl (E32.out _ HK.out) ?_)
    | (go_at_call 12; ((with_reducible refine ct1.mono ?_); rintro e w1 ⟨rfl, hb1⟩))
    | (refine wpList_put_row rfl 23 (.tmp 5) (.tmp 15) rfl w1.heap.size (rowOf T) rfl rfl 23 (rowOf (zbytes 16)) (Bk.new w1 _ _) (E16.out _ hTl) (by rw [rowOf_size, rowOf_size, hTl, zbytes_len]) (bytes_one _) ?_; intro w2 k2 g2 s2; clear s2; have A1 := A0.out.below hb1 A0.out.lt; have hlt1 := A1.lt; have A2 := (A1.alloc (.cells (rowOf (zbytes 16)) 23)).grown g2 (fun e => by injection e with e; omega); have X1 := X0.out.trans (hb1.mono X0.out.size); have X2 := (X1.alloc X1.size (.cells (rowOf (zbytes 16)) 23)).grown g2 (by have := X1.size; simp; omega) (fun i hi => by injection hi with hi; have := X1.size; omega))
    | (refine wpList_load_row rfl 22 (.tmp 2) rfl w.heap.size rfl 22 (rowOf key) (0, 0) _ A2 Try.underlying22 rfl (E32.out _ HK.out) ?_)
    | (refine wpList_put_row rfl 22 (.tmp 6) (.tmp 16) rfl w2.heap.size (rowOf key) rfl rfl 22 (rowOf (zbytes 32)) (Bk.new w2 _ _) (E32.out _ HK.out) (by rw [rowOf_size, rowOf_size, HK.out, zbytes_len]) (bytes_one _) ?_; intro w3 k3 g3 s3))
  have hl2 := A2.lt
  have hk2l := k2.lt
  have A3 := (A2.alloc (.cells (rowOf (zbytes 32)) 22)).grown g3 (fun e => by injection e with e; omega)
  have T3 := (k2.alloc (.cells (rowOf (zbytes 32)) 22)).grown g3 (fun e => by injection e with e; omega)
  have X3 := (X2.alloc X2.size (.cells (rowOf (zbytes 32)) 22)).grown g3 (by have := X2.size; simp; omega) (fun i hi => by injection hi with hi; have := X2.size; omega)
  obtain ⟨G, hG⟩ : ∃ G, Hid (w2.heap.size = G) := ⟨_, rfl⟩
  obtain ⟨D, hD⟩ : ∃ D, Hid (w1.heap.size = D) := ⟨_, rfl⟩
  rw [hG.out] at k3 hl2 hk2l ⊢
  rw [hD.out] at T3 hlt1 hk2l ⊢
  have L3 : Bk w3 G 22 (rowOf (lowK key 0)) := k3
  have HA3 := hid_ A3
  have HT3 := hid_ T3
  have HX3 := hid_ X3
  have HL3 := hid_ L3
  have hwG : w.heap.size ≤ G := by omega
  clear A3 T3 X3 L3 k3 g3 s3 A2 X2 k2 g2 A1 X1 hb1 A0 X0 ct1
  go_wp2
  go_loopw [7] (fun i wr => ∃ k : Nat, k ≤ 16 ∧ i = .int .i64 k ∧ Bk wr G 22 (rowOf (lowK key k)) ∧ Bk wr w.heap.size 22 (rowOf key) ∧ Bk wr D 23 (rowOf T) ∧ Below w.heap.size w wr) (fun i _ => 16 - (intOf i).toNat)
  case atStart => exact ⟨0, by omega, rfl, HL3.out, HA3.out, HT3.out, HX3.out⟩
  case round =>
    obtain ⟨k, hk1, rfl, b1, b2, b3, bb⟩ := hrel
    have B1 := hid_ b1
    have B2 := hid_ b2
    have B3 := hid_ b3
    have BB := hid_ bb
    clear b1 b2 b3 bb HL3 HA3 HT3 HX3
    by_cases hlt : k < 16
    · have hkl : k < key.length := by rw [HK.out]; omega
      have hc2 := B1.out.cell k
      rw [rowOf_at _ _ (by rw [lowK_len _ _ (Nat.le_of_lt hkl)]; exact hkl)] at hc2
      have hf := B1.out.frozen k
      have hset := B1.out.set_ k (.int .u8 (((0 : UInt8).toNat : Nat) : Int))
      rw [rowOf_set, lowK_set key k hkl] at hset
      have hset : Bk (wr.setCell ⟨G, k, none⟩ (.int .u8 0)) G 22 (rowOf (lowK key (k + 1))) := hset
      have HS := hid_ hset
      have t0 : (0 : Int) ≤ (k : Int) := by omega
      have t32 : (k : Int) < 32 := by omega
      clear hset hkl
      go_wp2
      go_roundw
      case rel => exact ⟨k + 1, by omega, by go_num, HS.out, B2.out.far (by simp <;> omega) _, B3.out.far (by simp <;> omega) _, BB.out.setCell (by simp <;> omega) _⟩
      case measure => simp [intOf]; omega
    · have hk16 : k = 16 := by omega
      have B4 := B1.out
      rw [hk16] at B4
      have hlw := lowK_len key 16 (by rw [HK.out]; omega)
      rw [HK.out] at hlw
      have ct2 := tag_any (lowK key 16) A n c b wr hlw hbl.out hnc (by simp only [maxLen] at hcm; omega) ((HR.out.below BB.out).more BB.out.size)
      rw [htl] at ct2
      clear hk16
      go_upto_region 9 with (first
        | (refine wpList_load_row rfl 22 (.tmp 6) rfl G rfl 22 (rowOf (lowK key 16)) (0, 0) _ B4 Try.underlying22 rfl (E32.out _ hlw) ?_)
        | (go_at_call 12; ((with_reducible refine ct2.mono ?_); rintro e w4 ⟨rfl, hb4⟩))
        | (refine wpList_put_row rfl 23 (.tmp 8) (.tmp 25) rfl w4.heap.size (rowOf T) rfl rfl 23 (rowOf (zbytes 16)) (Bk.new w4 _ _) (E16.out _ hTl) (by rw [rowOf_size, rowOf_size, hTl, zbytes_len]) (bytes_one _) ?_; intro w5 k5 g5 s5; clear s5))
      rw [put_none]
      have Y4 := BB.out.trans (hb4.mono BB.out.size)
      have X5 := (Y4.alloc Y4.size (.cells (rowOf (zbytes 16)) 23)).grown g5 (by have := Y4.size; simp; omega) (fun i hi => by injection hi with hi; have := Y4.size; omega)
      have C2 := B2.out.below hb4 B2.out.lt
      have C3 := B3.out.below hb4 B3.out.lt
      have hc2l := C2.lt
      have hc3l := C3.lt
      have D2 := (C2.alloc (.cells (rowOf (zbytes 16)) 23)).grown g5 (fun e => by injection e with e; omega)
      have D3 := (C3.alloc (.cells (rowOf (zbytes 16)) 23)).grown g5 (fun e => by injection e with e; omega)
      have HD2 := hid_ D2
      have HD3 := hid_ D3
      have HK5 := hid_ k5
      have HX5 := hid_ X5
      have HC1 : Hid (∀ W : World, Below w5.heap.size w5 W → (convert 25 9 (.slice (some ⟨w4.heap.size, 0, none⟩) 16 16)).run Try.prog W = .ok (.string (strOf T)) W) := hid_ (fun W h => conv_strn ((HK5.out.below h HK5.out.lt).rd (Nat.lt_succ_self _)) 16 16 hTl)
      have HC2 : Hid (∀ W : World, Below w5.heap.size w5 W → (convert 25 9 (.slice (some ⟨w.heap.size, 16, none⟩) 16 16)).run Try.prog W = .ok (.string (strOf T)) W) := hid_ (fun W h => by
        have hr := ((HD2.out.below h HD2.out.lt).rd (Nat.lt_succ_self _)).drop 16
        rw [Nat.zero_add, hT.out] at hr
        exact conv_strn hr 16 16 hTl)
      have HC3 : Hid (∀ W : World, Below w5.heap.size w5 W → (convert 25 9 (.slice (some ⟨D, 0, none⟩) 16 16)).run Try.prog W = .ok (.string (strOf T)) W) := hid_ (fun W h => conv_strn ((HD3.out.below h HD3.out.lt).rd (Nat.lt_succ_self _)) 16 16 hTl)
      have HT1 : Hid (∀ W : World, Below w5.heap.size w5 W → Calls Try.prog 13 #[] W fun e w' => e = .returned (.bool true) ∧ Below w5.heap.size w5 w') := hid_ (fun W h => (tags_any W).mono fun e w' hh => ⟨hh.1, h.trans (hh.2.mono h.size)⟩)
      have s1 := slice_all16 w4.heap.size
      have s2 := slice_from32 w.heap.size 16 (by omega)
      have s3 := slice_all16 D
      clear k5 g5 X5 D2 D3 Y4 hb4 C2 C3 hc2l hc3l ct2 B4
      refine region_quiet_in (C := fun W => Below w5.heap.size w5 W) (by kernel_rfl) (by kernel_rfl) ((Below.refl _ _).drew) ?_
      repeat (go_big_quiet_want; (first
        | (refine BigFrame.quiet_move _ rfl ?_; go_simp)
        | (refine BigFrame.quiet_assign _ rfl ?_; go_simp)
        | (refine quiet_run (.slice (some ⟨D, 0, none⟩) 16 16) ?_ ?_; (focus (intro W hW; go_simp; done)); go_simp)
        | (refine quiet_run (.slice (some ⟨w4.heap.size, 0, none⟩) 16 16) ?_ ?_; (focus (intro W hW; go_simp; done)); go_simp)
        | (refine quiet_run (.slice (some ⟨w.heap.size, 16, none⟩) 16 16) ?_ ?_; (focus (intro W hW; go_simp; done)); go_simp)
        | (refine quiet_run (.string (strOf T)) ?_ ?_; (focus (intro W hW; have h := HC1.out W hW; go_simp; done)); go_simp)
        | (refine quiet_run (.string (strOf T)) ?_ ?_; (focus (intro W hW; have h := HC2.out W hW; go_simp; done)); go_simp)
        | (refine quiet_run (.string (strOf T)) ?_ ?_; (focus (intro W hW; have h := HC3.out W hW; go_simp; done)); go_simp)
        | (refine quiet_run (.bool true) ?_ ?_; (focus (intro W hW; go_simp; done)); go_simp)
        | (refine quiet_call (.bool true) 13 #[] ?_ HT1.out ?_; (focus (intro W; go_simp; done)); go_simp)); go_big_quiet_on)
      refine wpQuiet_nil ?_
      intro W hW
      have hWb := HX5.out.trans (hW.mono HX5.out.size)
      clear hW
      go_wp2
      go_ret
      exact ⟨rfl, hWb⟩

set_option maxRecDepth 100000 in
theorem lifted (os : Os) (started : os.Started) (H : Type) (enc : TypeId × Value → H) :
    ReturnsInHanded {} Try.checked os 5 .any (Rows.polyNoughtSpec.pre6 enc Try.prog Try.f5 Rows.polyNoughtRow.domain false) (Rows.polyNoughtSpec.post enc Try.prog Try.f5 false true false false) := by
  refine returnsInHanded_of_change (C := Try.checked) own_ started (by kernel_rfl) Try.func5
    (ChangeSpec.witness6 (enc := enc) (C := Try.checked) false ⟨#[], #[.agg (rowOf (zbytes 32)), .slice none 0 0], []⟩ 8 (by kernel_rfl) (by kernel_rfl) (by kernel_rfl) (by kernel_rfl)) ?_
  intro W base args ds gs before hval0 hW hcnd _
  have hval : ∀ (j : Nat) t v, Try.f5.params[j]? = some t → args[j]? = some v → Value.okWide Try.prog W .any base t v := hval0
  have hW' := hW
  obtain ⟨p, q, hA0, hV, rfl, hfz, hnd⟩ := hW
  have hA : DataW.TrodAll enc Try.prog W 0 (fun _ => true) true Try.f5.params.toList args.toList ds p := hA0
  rw [Try.params5] at hA hval
  obtain ⟨v0, vs0, d0, ds0, p0, q0, hargs, rfl, rfl, h0, r0⟩ := trodAll_cons hA
  obtain ⟨v1, vs1, d1, ds1, p1, q1, rfl, rfl, rfl, h1, r1⟩ := trodAll_cons r0
  obtain ⟨rfl, rfl, rfl⟩ := trodAll_nil r1
  obtain rfl : args = #[v0, v1] := by cases args; simp_all
  obtain ⟨rfl, rfl⟩ := trodVars_none hV
  obtain ⟨l0, rfl, hl0⟩ := open_arr8 Try.underlying22 Try.underlying5 (by kernel_rfl) (by kernel_rfl) (hval 0 22 v0 rfl rfl) h0
  obtain ⟨A1, l1, c1, rfl, hr1, hlc1, hcm1⟩ := open_bytes Try.underlying25 Try.underlying5 (by kernel_rfl) (hval 1 25 v1 rfl rfl) h1
  refine (walk l0 A1 c1 l1 W hl0 hr1 hlc1 hcm1).mono fun e W' ⟨he, hg⟩ => ⟨_, he, ?_⟩
  exact law_post laidOut_ (of_decide_eq_true (by kernel_rfl)) rfl rfl Try.underlying4 rfl hW' hg

theorem over : Rows.polyNoughtRow.holds Try.pinned (OpenSpec.ofChange Rows.polyNoughtSpec) :=
  OpenClaim.holds_of_wide 5 Try.f5 rfl rfl rfl rfl rfl rfl rfl ⟨rfl, rfl, rfl, rfl, rfl⟩ rfl rfl rfl rfl rfl (by kernel_rfl) Try.func5 (by kernel_rfl)
    (of_decide_eq_true (by kernel_rfl)) (by unfold Func.isWrapper; first | (rw [if_pos (by decide +kernel)]; kernel_rfl) | (rw [if_neg (by decide +kernel)]; exact ⟨rfl, rfl⟩))
    (fun os started H enc _ => lifted os started H enc)

theorem proved : Rows.PolyNoughtSaid := over
#print axioms proved
end Go.Proofs.Ytmiaeddgacgpfab.polyNought
