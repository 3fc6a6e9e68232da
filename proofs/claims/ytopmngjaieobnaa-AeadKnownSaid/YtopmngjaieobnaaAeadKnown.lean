/-
  Proved: for every input AeadKnown answers true: the standard's own example has its tag. No condition.
-/
import Derived.Test.YtopmngjaieobnaaEg
import Derived.Test.YtopmngjaieobnaaEh
import Derived.Test.YtopmngjaieobnaaLp
import Derived.Test.YtopmngjaieobnaaFr
import Derived.Test.YtopmngjaieobnaaP7
import Derived.Deep.DeepCutAuto
import Derived.Lib.SlBytesConst
import Derived.Great.BuildSlice
namespace Go.Proofs.Ytopmngjaieobnaa.aeadKnown
open Go.ChangeShapes Go.WideShapes Go.ChangeAt Go.RowKit
set_option linter.unusedVariables false
set_option linter.unusedSimpArgs false

theorem hid_ {p : Prop} (h : p) : Hid p := h
theorem u64_nat (z : Int) : ∃ x : Nat, IntKind.u64.wrap z = (x : Int) ∧ x ≤ 18446744073709551615 := by
  refine ⟨(z % 18446744073709551616).toNat, ?_, by omega⟩
  rw [IntKind.wrap_u64]
  omega
theorem flat_row (l : List UInt8) : ((l.map fun b => (b.toNat : Int)).map (Value.int .u8)).toArray = rowOf l := by simp [rowOf]
/-- The worlds of a line: behind w, all stands. -/
def AoC (w : World) (W : World) : Prop := Below w.heap.size w W

set_option maxRecDepth 100000 in
set_option maxHeartbeats 4000000 in
theorem walk (w : World) (z : Int) :
    Calls Try.prog 8 #[.int .i64 z] w fun e w' => e = .returned (.bool true) ∧ Below w.heap.size w w' := by
  have hz32 := z32
  have hz16 := z16
  obtain ⟨x, hx, hxb⟩ := u64_nat z
  obtain ⟨k, hkk⟩ : ∃ k : Nat, (x : Int) % 16 = (k : Int) := ⟨x % 16, by omega⟩
  have hk16 : k < 16 := by omega
  have I32 := hid_ (fun (l : List UInt8) (h : l.length = 32) => ib32 l h)
  have I12 := hid_ (ib12 nonK rfl)
  have I16 : Hid ((Try.prog.info? 24).map (·.size) = some (rowOf wantK).size) := hid_ (by rw [rowOf_size]; exact i16_)
  have hz12 : ∀ W : World, (zeroValue 32).run Try.prog W = .ok (.agg (rowOf (zbytes 12))) W := fun W => by kernel_rfl
  obtain ⟨g, hg⟩ : ∃ g, Hid (w.heap.size = g) := ⟨_, rfl⟩
  obtain ⟨w0, hw0⟩ : ∃ W, Hid (w.alloc (.cells (rowOf (zbytes 32)) 22) = W) := ⟨_, rfl⟩
  have B0 : Hid (Bk w0 g 22 (rowOf (keyK 0))) := hid_ (by rw [← hw0.out, ← hg.out, keyK_zero]; exact Bk.new w _ _)
  have X0 : Hid (Below g w w0) := hid_ (by rw [← hw0.out, ← hg.out]; exact (Below.refl _ _).alloc (Nat.le_refl _) _)
  go_enter Try.func8, Try.ntmps8
  go_upto_region 2 with fail
  rw [hg.out, hw0.out]
  clear hw0
  go_wp2
  go_loopw [4] (fun i wr => ∃ j : Nat, j ≤ 32 ∧ i = .int .i64 j ∧ Hid (Bk wr g 22 (rowOf (keyK j))) ∧ Hid (Below g w wr)) (fun i _ => 32 - (intOf i).toNat)
  case atStart => exact ⟨0, by omega, rfl, B0, X0⟩
  case round =>
    obtain ⟨j, hj, rfl, B, X⟩ := hrel
    clear B0 X0
    by_cases hlt : j < 32
    · have hd : decide ((j : Int) < 32) = true := decide_eq_true (by omega)
      have hc := B.out.cell j
      rw [rowOf_at _ _ (by rw [keyK_len]; exact hlt)] at hc
      have hf := B.out.frozen j
      have hset := B.out.set_ j (.int .u8 (((UInt8.ofNat (128 + j)).toNat : Nat) : Int))
      have hkb : (((UInt8.ofNat (128 + j)).toNat : Nat) : Int) = 128 + (j : Int) := by
        have : (UInt8.ofNat (128 + j)).toNat = 128 + j := by simp; omega
        rw [this]; omega
      rw [rowOf_set, keyK_set j hlt, hkb] at hset
      have HS := hid_ hset
      have HX := hid_ (X.out.setCell (p := ⟨g, j, none⟩) (by simp) (.int .u8 (128 + (j : Int))))
      have t0 : (0 : Int) ≤ (j : Int) := by omega
      have t32 : (j : Int) < 32 := by omega
      have hw8 : IntKind.u8.wrap (j : Int) = (j : Int) := by simp [IntKind.wrap, IntKind.signed, IntKind.bits]; omega
      have hw9 : IntKind.u8.wrap (128 + (j : Int)) = 128 + (j : Int) := by simp [IntKind.wrap, IntKind.signed, IntKind.bits]; omega
      clear hset hkb
      go_wp2
      go_roundw
      case rel => exact ⟨j + 1, by omega, by go_num, HS, HX⟩
      case measure => simp [intOf]; omega
    · have e32 : j = 32 := by omega
      have hd : decide ((j : Int) < 32) = false := decide_eq_false (by omega)
      rw [e32] at B
      clear e32
      have hgw := B.out.lt
      obtain ⟨key, hkey⟩ : ∃ key, Hid (keyK 32 = key) := ⟨_, rfl⟩
      have HK : Hid (key.length = 32) := hid_ (by rw [← hkey.out]; exact keyK_len 32)
      have HKN : Hid ((sealB key nonK withK textK).drop 114 = wantK) := hid_ (by rw [← hkey.out]; exact known)
      rw [hkey.out] at B
      go_upto_region 7 with (first
        | (refine wpList_built rfl 32 _ rfl (rowOf nonK) (by kernel_rfl) ?_)
        | (refine wpList_put_row rfl 32 (.tmp 5) (.tmp 19) rfl wr.heap.size (rowOf nonK) rfl rfl 32 (rowOf (zbytes 12)) (Bk.new wr _ _) I12.out rfl (bytes_one _) ?_; intro w1 k1 g1 s1))
      rw [put_none]
      have B1 := hid_ ((B.out.alloc (.cells (rowOf (zbytes 12)) 32)).grown g1 (fun e => by injection e with e; omega))
      have X1 := hid_ ((X.out.alloc (Nat.le_of_lt hgw) (.cells (rowOf (zbytes 12)) 32)).grown g1 (by simp; omega) (fun i hi => by injection hi with hi; omega))
      have N1 := hid_ k1
      obtain ⟨gn, hgn⟩ : ∃ gn, Hid (wr.heap.size = gn) := ⟨_, rfl⟩
      rw [hgn.out] at N1 hgw ⊢
      have hgl := N1.out.lt
      clear k1 g1 s1 B X
      obtain ⟨w2, hw2⟩ : ∃ W, Hid (w1.alloc (.cells #[.int .u8 80, .int .u8 81, .int .u8 82, .int .u8 83, .int .u8 192, .int .u8 193, .int .u8 194, .int .u8 195, .int .u8 196, .int .u8 197, .int .u8 198, .int .u8 199] 5) = W) := ⟨_, rfl⟩
      have k2 := fun W => Lib.run_convert_bytes_const (P := Try.prog) W 23 5 (rowOf textK) 114 114 Try.underlying23 Try.underlying5
      have kk2 := k2 w2
      obtain ⟨w3, hw3⟩ : ∃ W, Hid (w2.alloc (.cells (rowOf textK) 5 ((rowOf textK).size, (rowOf textK).size + 1)) = W) := ⟨_, rfl⟩
      obtain ⟨gw, hgw1⟩ : ∃ gw, Hid (w1.heap.size = gw) := ⟨_, rfl⟩
      obtain ⟨gt, hgt⟩ : ∃ gt, Hid (w2.heap.size = gt) := ⟨_, rfl⟩
      have R2 : Hid (Rd w3 w3.heap.size (some ⟨gw, 0, none⟩) withK) := hid_ (by
        have h1 := rd_mark w1 withK (0, 0)
        rw [withK_row, hw2.out, hgw1.out] at h1
        have hl : w2.heap.size = gw + 1 := by rw [← hw2.out, ← hgw1.out]; simp
        have h2 := h1.alloc (w := w2) (by omega) (.cells (rowOf textK) 5 ((rowOf textK).size, (rowOf textK).size + 1))
        rw [hw3.out] at h2
        exact h2.more (by rw [← hw3.out]; simp; omega))
      have R3 : Hid (Rd w3 w3.heap.size (some ⟨gt, 0, none⟩) textK) := hid_ (by
        have h1 := rd_mark w2 textK ((rowOf textK).size, (rowOf textK).size + 1)
        rw [hw3.out, hgt.out] at h1
        exact h1.more (by rw [← hw3.out, ← hgt.out]; simp))
      have B3 : Hid (Bk w3 g 22 (rowOf key)) := hid_ (by rw [← hw3.out, ← hw2.out]; exact (B1.out.alloc _).alloc _)
      have N3 : Hid (Bk w3 gn 32 (rowOf nonK)) := hid_ (by rw [← hw3.out, ← hw2.out]; exact (N1.out.alloc _).alloc _)
      have hl2 : w2.heap.size = w1.heap.size + 1 := by rw [← hw2.out]; simp
      have X3 : Hid (Below g w w3) := hid_ (by rw [← hw3.out, ← hw2.out]; exact (X1.out.alloc (by omega) _).alloc (by simp; omega) _)
      have HB2 : Hid (Bk w2 g 22 (rowOf key)) := hid_ (by rw [← hw2.out]; exact B1.out.alloc _)
      have HN2 : Hid (Bk w2 gn 32 (rowOf nonK)) := hid_ (by rw [← hw2.out]; exact N1.out.alloc _)
      have cs := seal_any key nonK (some ⟨gw, 0, none⟩) 12 12 withK (some ⟨gt, 0, none⟩) 114 114 textK w3 HK.out rfl rfl rfl R2.out R3.out (by omega) (by omega) (by omega) (by omega)
      have SL := hid_ (sealB_len key nonK withK textK)
      obtain ⟨S, hS⟩ : ∃ S, Hid (sealB key nonK withK textK = S) := ⟨_, rfl⟩
      rw [hS.out] at cs SL HKN
      have SL : Hid (S.length = 130) := SL
      have cs : Calls Try.prog 17 #[.agg (rowOf key), .agg (rowOf nonK), .slice (some ⟨gw, 0, none⟩) 12 12, .slice (some ⟨gt, 0, none⟩) 114 114] w3 (NewP w3 130 S) := cs
      rw [hgt.out] at kk2
      clear k2 hl2 B1 N1 X1
      go_upto_region 8 with fail
      rw [hgw1.out, hw2.out]
      go_upto_region 9 with (first
        | (refine wpList_load_row rfl 22 (.tmp 3) rfl g rfl 22 (rowOf key) (0, 0) _ HB2.out Try.underlying22 rfl (I32.out _ HK.out) ?_)
        | (refine wpList_load_row rfl 32 (.tmp 5) rfl gn rfl 32 (rowOf nonK) (0, 0) _ HN2.out Try.underlying32 rfl I12.out ?_)
        | (refine wpList_buildFlat rfl 23 5 114 _ rfl .u8 (textK.map fun b => (b.toNat : Int)) Try.underlying23 (by kernel_rfl) (by kernel_rfl) (by kernel_rfl) (by omega) (by omega) (by kernel_rfl) ?_; rw [flat_row, hgt.out])
        | (rw [hw3.out]; go_at_call 17; ((with_reducible refine cs.mono ?_); rintro e w4 ⟨A4, c4, rfl, ho4, hb4⟩; have HO4 := hid_ ho4; have HB4 := hid_ hb4; clear ho4 hb4)))
      have X4 := hid_ (X3.out.trans (HB4.out.mono (Nat.le_of_lt B3.out.lt)))
      clear cs HB2 HN2 B3 N3 R2 R3 kk2 hz32 hz12
      go_upto_region 10 with (first
        | (refine wpList_built rfl 24 _ rfl (rowOf wantK) (by kernel_rfl) ?_)
        | (refine wpList_put_row rfl 24 (.tmp 8) (.tmp 27) rfl w4.heap.size (rowOf wantK) rfl rfl 24 (rowOf (zbytes 16)) (Bk.new w4 _ _) I16.out rfl (bytes_one _) ?_; intro w5 k5 g5 s5))
      rw [put_none]
      have hsz4 : g ≤ w4.heap.size := X4.out.size |> fun h => by rw [hg.out] at h; exact h
      have hO4 := HO4.out.lt
      have HO5 := hid_ ((HO4.out.alloc (.cells (rowOf (zbytes 16)) 24)).kept g5 (by
        cases hv : (Value.slice A4 130 c4).ownBlock with
        | none => exact .inl rfl
        | some q => exact .inr (by have := (hO4 q hv).2; intro e; injection e with e; omega)))
      have X5 := hid_ ((X4.out.alloc hsz4 (.cells (rowOf (zbytes 16)) 24)).grown g5 (by simp; omega) (fun i hi => by injection hi with hi; omega))
      have W5 := hid_ k5
      have hsz5 : w4.heap.size < w5.heap.size := k5.lt
      obtain ⟨gz, hgz⟩ : ∃ gz, Hid (w4.heap.size = gz) := ⟨_, rfl⟩
      rw [hgz.out] at W5 ⊢
      obtain ⟨q, rfl⟩ := HO5.out.block_ (by omega)
      have hwl : wantK.length = 16 := rfl
      have hgv : Hid (S.getD (114 + k) 0 = wantK.getD k 0) := hid_ (by
        rw [← HKN.out]
        simp [List.getD])
      have hc1 := HO5.out.cellz (114 + k) (by omega)
      have hc2 := W5.out.cell k
      rw [rowOf_at _ _ (by rw [hwl]; exact hk16)] at hc2
      rw [hgv.out] at hc1
      obtain ⟨v, hv⟩ : ∃ v, Hid ((((wantK.getD k 0).toNat : Nat) : Int) = v) := ⟨_, rfl⟩
      rw [hv.out] at hc1 hc2
      have hO5 := HO5.out.lt q rfl
      have HL1 : Hid (∀ W : World, AoC w5 W → W.cell? ⟨q, 114 + k, none⟩ = some (.int .u8 v)) := hid_ (fun W h => (h.cell (p := ⟨q, 114 + k, none⟩) hO5.2).trans hc1)
      have HL2 : Hid (∀ W : World, AoC w5 W → W.cell? ⟨gz, k, none⟩ = some (.int .u8 v)) := hid_ (fun W h => (h.cell (p := ⟨gz, k, none⟩) W5.out.lt).trans hc2)
      have P1 : Hid (∀ W : World, AoC w5 W → Calls Try.prog 19 #[] W fun e w' => e = .returned (.bool true) ∧ AoC w5 w') := hid_ (fun W h => (seals_any W).mono fun e w' hh => ⟨hh.1, h.trans (hh.2.mono h.size)⟩)
      have t0 : (0 : Int) ≤ (k : Int) := by omega
      have t16 : (k : Int) < 16 := by omega
      have t1 : (0 : Int) ≤ 114 + (k : Int) := by omega
      have t2 : 114 + (k : Int) < 130 := by omega
      have t3 : (114 + (k : Int)).toNat = 114 + k := by omega
      have q1 : IntKind.i64.wrap (114 + (k : Int)) = 114 + (k : Int) := IntWalk.i64_in _ (by omega)
      clear k5 g5 s5 HO4 X4 hc1 hc2 hO4 HO5 W5
      go_upto_region 11 with fail
      clear hx hkk
      refine region_quiet_in (C := AoC w5) (by kernel_rfl) (by kernel_rfl) ((Below.refl _ _).drew) ?_
      repeat (go_big_quiet_want; (first
        | (refine BigFrame.quiet_move _ rfl ?_; go_simp)
        | (refine BigFrame.quiet_assign _ rfl ?_; go_simp)
        | (refine quiet_call (.bool true) 19 #[] ?_ P1.out ?_; (focus (intro W; go_simp; done)); go_simp)
        | (refine quiet_run (.bool true) ?_ ?_; (focus (intro W hW; go_simp; done)); go_simp)
        | (refine quiet_run (.int .i64 130) ?_ ?_; (focus (intro W hW; go_simp; done)); go_simp)
        | (refine quiet_run (.int .i64 (114 + (k : Int))) ?_ ?_; (focus (intro W hW; go_simp; done)); go_simp)
        | (refine quiet_run (.pointer (some ⟨q, 114 + k, none⟩)) ?_ ?_; (focus (intro W hW; go_simp; done)); go_simp)
        | (refine quiet_run (.pointer (some ⟨gz, k, none⟩)) ?_ ?_; (focus (intro W hW; go_simp; done)); go_simp)
        | (refine quiet_run (.int .u8 v) ?_ ?_; (focus (intro W hW; have h := HL1.out W hW; go_simp; done)); go_simp)
        | (refine quiet_run (.int .u8 v) ?_ ?_; (focus (intro W hW; have h := HL2.out W hW; go_simp; done)); go_simp)); go_big_quiet_on)
      refine wpQuiet_nil ?_
      intro W6 hW6
      have HW := hid_ hW6
      clear hW6
      go_wp2
      go_ret
      exact ⟨rfl, by rw [hg.out]; exact X5.out.trans (HW.out.mono (by omega))⟩

set_option maxRecDepth 100000 in
theorem lifted (os : Os) (started : os.Started) (H : Type) (enc : TypeId × Value → H) :
    ReturnsInHanded {} Try.checked os 8 .any (Rows.aeadKnownSpec.pre6 enc Try.prog Try.f8 Rows.aeadKnownRow.domain false) (Rows.aeadKnownSpec.post enc Try.prog Try.f8 false true false false) := by
  refine returnsInHanded_of_change (C := Try.checked) own_ started (by kernel_rfl) Try.func8
    (ChangeSpec.witness6 (enc := enc) (C := Try.checked) false ⟨#[], #[.int .i64 0], []⟩ 8 (by kernel_rfl) (by kernel_rfl) (by kernel_rfl) (by kernel_rfl)) ?_
  intro W base args ds gs before hval0 hW hcnd _
  have hval : ∀ (j : Nat) t v, Try.f8.params[j]? = some t → args[j]? = some v → Value.okWide Try.prog W .any base t v := hval0
  have hW' := hW
  obtain ⟨p, q, hA0, hV, rfl, hfz, hnd⟩ := hW
  have hA : DataW.TrodAll enc Try.prog W 0 (fun _ => true) true Try.f8.params.toList args.toList ds p := hA0
  rw [Try.params8] at hA hval
  obtain ⟨v0, vs0, d0, ds0, p0, q0, hargs, rfl, rfl, h0, r0⟩ := trodAll_cons hA
  obtain ⟨rfl, rfl, rfl⟩ := trodAll_nil r0
  obtain rfl : args = #[v0] := by cases args; simp_all
  obtain ⟨rfl, rfl⟩ := trodVars_none hV
  obtain ⟨a0, rfl, rfl, rfl, w0⟩ := open_int Try.underlying3 (hval 0 3 v0 rfl rfl) h0
  obtain ⟨b0, e0⟩ := bounds_i64 w0
  refine (walk W a0).mono fun e W' ⟨he, hg⟩ => ⟨_, he, ?_⟩
  exact law_post laidOut_ (of_decide_eq_true (by kernel_rfl)) rfl rfl Try.underlying4 rfl hW' hg

theorem over : Rows.aeadKnownRow.holds Try.pinned (OpenSpec.ofChange Rows.aeadKnownSpec) :=
  OpenClaim.holds_of_wide 8 Try.f8 rfl rfl rfl rfl rfl rfl rfl ⟨rfl, rfl, rfl, rfl, rfl⟩ rfl rfl rfl rfl rfl (by kernel_rfl) Try.func8 (by kernel_rfl)
    (of_decide_eq_true (by kernel_rfl)) (by unfold Func.isWrapper; first | (rw [if_pos (by decide +kernel)]; kernel_rfl) | (rw [if_neg (by decide +kernel)]; exact ⟨rfl, rfl⟩))
    (fun os started H enc _ => lifted os started H enc)

theorem proved : Rows.AeadKnownSaid := over
#print axioms proved
end Go.Proofs.Ytopmngjaieobnaa.aeadKnown
