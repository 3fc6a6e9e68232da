/-
  Proved: for every number PolyKnown answers true: the standard's own example has its tag. No condition.
-/
import Derived.Test.YtmiaeddgacgpfabP7
namespace Go.Proofs.Ytmiaeddgacgpfab.polyKnown
open Go.ChangeShapes Go.WideShapes Go.ChangeAt Go.RowKit
set_option linter.unusedVariables false

def keyB : List UInt8 := [133, 214, 190, 120, 87, 85, 109, 51, 127, 68, 82, 254, 66, 213, 6, 168, 1, 3, 128, 138, 251, 13, 178, 253, 74, 191, 246, 175, 65, 73, 245, 27]
def wantB : List UInt8 := [168, 6, 29, 193, 48, 81, 54, 198, 194, 43, 139, 175, 12, 1, 39, 169]
def textB : List UInt8 := [67, 114, 121, 112, 116, 111, 103, 114, 97, 112, 104, 105, 99, 32, 70, 111, 114, 117, 109, 32, 82, 101, 115, 101, 97, 114, 99, 104, 32, 71, 114, 111, 117, 112]
theorem known : polyTag keyB textB = wantB := by decide +kernel
theorem u64_nat (z : Int) : ∃ x : Nat, IntKind.u64.wrap z = (x : Int) ∧ x ≤ 18446744073709551615 := by
  have h : IntKind.u64.wrap z = z % 18446744073709551616 := by simp [IntKind.wrap, IntKind.signed, IntKind.bits]
  rw [h]
  exact ⟨(z % 18446744073709551616).toNat, by omega, by omega⟩

set_option maxRecDepth 100000 in
set_option maxHeartbeats 4000000 in
theorem walk (z : Int) (w : World) :
    Calls Try.prog 3 #[.int .i64 z] w fun e w' => e = .returned (.bool true) ∧ Below w.heap.size w w' := by
  have hz := z32
  have hz16 := z16
  obtain ⟨x, hx, hxb⟩ := u64_nat z
  obtain ⟨k, hk⟩ : ∃ k : Nat, (x : Int) % 16 = (k : Int) := ⟨x % 16, by omega⟩
  have hk16 : k < 16 := by omega
  have k1 : ∀ (W : World) (g : Nat) (hg : W.heap.size = g), (convert 25 25 (.slice (some ⟨g, 0, none⟩) 34 34)).run Try.prog (W.alloc (.cells #[.int .u8 67, .int .u8 114, .int .u8 121, .int .u8 112, .int .u8 116, .int .u8 111, .int .u8 103, .int .u8 114, .int .u8 97, .int .u8 112, .int .u8 104, .int .u8 105, .int .u8 99, .int .u8 32, .int .u8 70, .int .u8 111, .int .u8 114, .int .u8 117, .int .u8 109, .int .u8 32, .int .u8 82, .int .u8 101, .int .u8 115, .int .u8 101, .int .u8 97, .int .u8 114, .int .u8 99, .int .u8 104, .int .u8 32, .int .u8 71, .int .u8 114, .int .u8 111, .int .u8 117, .int .u8 112] 5)) = .ok (.slice (some ⟨g, 0, none⟩) 34 34) (W.alloc (.cells #[.int .u8 67, .int .u8 114, .int .u8 121, .int .u8 112, .int .u8 116, .int .u8 111, .int .u8 103, .int .u8 114, .int .u8 97, .int .u8 112, .int .u8 104, .int .u8 105, .int .u8 99, .int .u8 32, .int .u8 70, .int .u8 111, .int .u8 114, .int .u8 117, .int .u8 109, .int .u8 32, .int .u8 82, .int .u8 101, .int .u8 115, .int .u8 101, .int .u8 97, .int .u8 114, .int .u8 99, .int .u8 104, .int .u8 32, .int .u8 71, .int .u8 114, .int .u8 111, .int .u8 117, .int .u8 112] 5 (34, 35))) := fun W g hg => by subst hg; exact Lib.run_convert_bytes_const (P := Try.prog) W 25 5 #[.int .u8 67, .int .u8 114, .int .u8 121, .int .u8 112, .int .u8 116, .int .u8 111, .int .u8 103, .int .u8 114, .int .u8 97, .int .u8 112, .int .u8 104, .int .u8 105, .int .u8 99, .int .u8 32, .int .u8 70, .int .u8 111, .int .u8 114, .int .u8 117, .int .u8 109, .int .u8 32, .int .u8 82, .int .u8 101, .int .u8 115, .int .u8 101, .int .u8 97, .int .u8 114, .int .u8 99, .int .u8 104, .int .u8 32, .int .u8 71, .int .u8 114, .int .u8 111, .int .u8 117, .int .u8 112] 34 34 Try.underlying25 Try.underlying5
  have e32 : ∀ l : List UInt8, l.length = 32 → (Try.prog.info? 22).map (·.size) = some (rowOf l).size := fun l h => by rw [rowOf_size, h]; exact i32_
  have E32 := hid_ e32
  have e16 : ∀ l : List UInt8, l.length = 16 → (Try.prog.info? 23).map (·.size) = some (rowOf l).size := fun l h => by rw [rowOf_size, h]; exact i16_
  have E16 := hid_ e16
  clear e32 e16
  go_enter Try.func3, Try.ntmps3
  go_upto_region 3 with (first
    | (refine wpList_built rfl 22 _ rfl (rowOf keyB) (by kernel_rfl) ?_)
    | (refine wpList_built rfl 23 _ rfl (rowOf wantB) (by kernel_rfl) ?_)
    | (refine wpList_put_row rfl 22 (.tmp 3) (.tmp 7) rfl w.heap.size (rowOf keyB) rfl rfl 22 (rowOf (zbytes 32)) (Bk.new w _ _) (E32.out _ rfl) rfl (bytes_one _) ?_; intro w1 m1 g1 s1; have s1' : w1.heap.size = w.heap.size + 1 := by rw [s1]; simp)
    | (refine wpList_put_row rfl 23 (.tmp 4) (.tmp 8) rfl (w.heap.size + 1) (rowOf wantB) rfl rfl 23 (rowOf (zbytes 16)) (by have h := Bk.new w1 23 (rowOf (zbytes 16)); rwa [s1'] at h) (E16.out _ rfl) rfl (bytes_one _) ?_; intro w2 m2 g2 s2))
  have M1 : Bk w2 w.heap.size 22 (rowOf keyB) := (m1.alloc (.cells (rowOf (zbytes 16)) 23)).grown g2 (fun e => by injection e with e; omega)
  have X1 := ((Below.refl w.heap.size w).alloc (Nat.le_refl _) (.cells (rowOf (zbytes 32)) 22)).grown g1 (by simp) (fun i hi => by injection hi with hi; omega)
  have X2 := (X1.alloc X1.size (.cells (rowOf (zbytes 16)) 23)).grown g2 (by simp; omega) (fun i hi => by injection hi with hi; omega)
  have kk := k1 w2 w2.heap.size rfl
  obtain ⟨G, hG⟩ : ∃ G, Hid (w2.heap.size = G) := ⟨_, rfl⟩
  obtain ⟨w3, hw3⟩ : ∃ w3, Hid (w2.alloc (.cells #[.int .u8 67, .int .u8 114, .int .u8 121, .int .u8 112, .int .u8 116, .int .u8 111, .int .u8 103, .int .u8 114, .int .u8 97, .int .u8 112, .int .u8 104, .int .u8 105, .int .u8 99, .int .u8 32, .int .u8 70, .int .u8 111, .int .u8 114, .int .u8 117, .int .u8 109, .int .u8 32, .int .u8 82, .int .u8 101, .int .u8 115, .int .u8 101, .int .u8 97, .int .u8 114, .int .u8 99, .int .u8 104, .int .u8 32, .int .u8 71, .int .u8 114, .int .u8 111, .int .u8 117, .int .u8 112] 5 (34, 35)) = w3) := ⟨_, rfl⟩
  have r1 : Rd w3 w3.heap.size (some ⟨G, 0, none⟩) textB := by
    rw [← hw3.out, ← hG.out]
    refine fun _ => ⟨_, 0, rfl, by simp, fun j hj => ?_⟩
    rw [Nat.zero_add, World.cell?_alloc_mark]
    exact rowOf_at textB j hj
  have B3 : Bk w3 (w.heap.size + 1) 23 (rowOf wantB) := by rw [← hw3.out]; exact m2.alloc _
  have X3 : Below w.heap.size w w3 := by rw [← hw3.out]; exact X2.alloc X2.size _
  have ct := tag_any keyB (some ⟨G, 0, none⟩) 34 34 textB w3 rfl rfl (by omega) (by omega) r1
  rw [known] at ct
  rw [hG.out, hw3.out] at kk
  clear k1 r1 m1 g1 g2 s2 X1 X2 m2
  have hwl : wantB.length = 16 := rfl
  go_upto_region 5 with (first
    | (refine wpList_load_row rfl 22 (.tmp 3) rfl w.heap.size rfl 22 (rowOf keyB) (0, 0) _ M1 Try.underlying22 rfl (E32.out _ rfl) ?_)
    | (rw [hG.out])
    | (go_at_call 12; ((with_reducible refine ct.mono ?_); rintro e w4 ⟨rfl, hb4⟩))
    | (refine wpList_put_row rfl 23 (.tmp 5) (.tmp 12) rfl w4.heap.size (rowOf wantB) rfl rfl 23 (rowOf (zbytes 16)) (Bk.new w4 _ _) (E16.out _ rfl) rfl (bytes_one _) ?_; intro w5 k5 g5 s5))
  have Y4 := X3.trans (hb4.mono X3.size)
  have X5 := (Y4.alloc Y4.size (.cells (rowOf (zbytes 16)) 23)).grown g5 (by have := Y4.size; simp; omega) (fun i hi => by injection hi with hi; have := Y4.size; omega)
  have B4 := B3.below hb4 B3.lt
  have hlt4 := B4.lt
  have B5 := (B4.alloc (.cells (rowOf (zbytes 16)) 23)).grown g5 (fun e => by injection e with e; omega)
  have HB5 := hid_ B5
  have HK5 := hid_ k5
  have HX5 := hid_ X5
  obtain ⟨v, hv⟩ : ∃ v, Hid ((((wantB.getD k 0).toNat : Nat) : Int) = v) := ⟨_, rfl⟩
  have HL1 : Hid (∀ W : World, Below w5.heap.size w5 W → W.cell? ⟨w4.heap.size, k, none⟩ = some (.int .u8 v)) := hid_ (fun W h => by
    rw [(HK5.out.below h HK5.out.lt).cell, rowOf_at _ _ (by rw [hwl]; exact hk16), hv.out])
  have HL2 : Hid (∀ W : World, Below w5.heap.size w5 W → W.cell? ⟨w.heap.size + 1, k, none⟩ = some (.int .u8 v)) := hid_ (fun W h => by
    rw [(HB5.out.below h HB5.out.lt).cell, rowOf_at _ _ (by rw [hwl]; exact hk16), hv.out])
  have HT1 : Hid (∀ W : World, Below w5.heap.size w5 W → Calls Try.prog 13 #[] W fun e w' => e = .returned (.bool true) ∧ Below w5.heap.size w5 w') := hid_ (fun W h => (tags_any W).mono fun e w' hh => ⟨hh.1, h.trans (hh.2.mono h.size)⟩)
  have t0 : (0 : Int) ≤ (k : Int) := by omega
  have t16 : (k : Int) < 16 := by omega
  clear k5 g5 s5 X5 B5 Y4 hb4 B4 hlt4 kk ct B3 X3
  refine region_quiet_in (C := fun W => Below w5.heap.size w5 W) (by kernel_rfl) (by kernel_rfl) ((Below.refl _ _).drew) ?_
  repeat (go_big_quiet_want; (first
    | (refine BigFrame.quiet_move _ rfl ?_; go_simp)
    | (refine BigFrame.quiet_assign _ rfl ?_; go_simp)
    | (refine quiet_run (.pointer (some ⟨w4.heap.size, k, none⟩)) ?_ ?_; (focus (intro W hW; go_simp; done)); go_simp)
    | (refine quiet_run (.pointer (some ⟨w.heap.size + 1, k, none⟩)) ?_ ?_; (focus (intro W hW; go_simp; done)); go_simp)
    | (refine quiet_run (.int .u8 v) ?_ ?_; (focus (intro W hW; have h := HL1.out W hW; go_simp; done)); go_simp)
    | (refine quiet_run (.int .u8 v) ?_ ?_; (focus (intro W hW; have h := HL2.out W hW; go_simp; done)); go_simp)
    | (refine quiet_run (.bool true) ?_ ?_; (focus (intro W hW; go_simp; done)); go_simp)
    | (refine quiet_call (.bool true) 13 #[] ?_ HT1.out ?_; (focus (intro W; go_simp; done)); go_simp)); go_big_quiet_on)
  refine wpQuiet_nil ?_
  intro W hW
  have hWb := HX5.out.trans (hW.mono HX5.out.size)
  clear hW
  go_wp2
  go_ret
  exact ⟨rfl, hWb⟩

set_option maxRecDepth 100000 in
theorem lifted (os : Os) (started : os.Started) (H : Type) (enc : TypeId × Value → H) :
    ReturnsInHanded {} Try.checked os 3 .any (Rows.polyKnownSpec.pre6 enc Try.prog Try.f3 Rows.polyKnownRow.domain false) (Rows.polyKnownSpec.post enc Try.prog Try.f3 false true false false) := by
  refine returnsInHanded_of_change (C := Try.checked) own_ started (by kernel_rfl) Try.func3
    (ChangeSpec.witness6 (enc := enc) (C := Try.checked) false ⟨#[], #[.int .i64 0], []⟩ 8 (by kernel_rfl) (by kernel_rfl) (by kernel_rfl) (by kernel_rfl)) ?_
  intro W base args ds gs before hval0 hW hcnd _
  have hval : ∀ (j : Nat) t v, Try.f3.params[j]? = some t → args[j]? = some v → Value.okWide Try.prog W .any base t v := hval0
  have hW' := hW
  obtain ⟨p, q, hA0, hV, rfl, hfz, hnd⟩ := hW
  have hA : DataW.TrodAll enc Try.prog W 0 (fun _ => true) true Try.f3.params.toList args.toList ds p := hA0
  rw [Try.params3] at hA hval
  obtain ⟨v0, vs0, d0, ds0, p0, q0, hargs, rfl, rfl, h0, r0⟩ := trodAll_cons hA
  obtain ⟨rfl, rfl, rfl⟩ := trodAll_nil r0
  obtain rfl : args = #[v0] := by cases args; simp_all
  obtain ⟨rfl, rfl⟩ := trodVars_none hV
  obtain ⟨a0, rfl, rfl, rfl, w0⟩ := open_int Try.underlying3 (hval 0 3 v0 rfl rfl) h0
  refine (walk a0 W).mono fun e W' ⟨he, hg⟩ => ⟨_, he, ?_⟩
  exact law_post laidOut_ (of_decide_eq_true (by kernel_rfl)) rfl rfl Try.underlying4 rfl hW' hg

theorem over : Rows.polyKnownRow.holds Try.pinned (OpenSpec.ofChange Rows.polyKnownSpec) :=
  OpenClaim.holds_of_wide 3 Try.f3 rfl rfl rfl rfl rfl rfl rfl ⟨rfl, rfl, rfl, rfl, rfl⟩ rfl rfl rfl rfl rfl (by kernel_rfl) Try.func3 (by kernel_rfl)
    (of_decide_eq_true (by kernel_rfl)) (by unfold Func.isWrapper; first | (rw [if_pos (by decide +kernel)]; kernel_rfl) | (rw [if_neg (by decide +kernel)]; exact ⟨rfl, rfl⟩))
    (fun os started H enc _ => lifted os started H enc)

theorem proved : Rows.PolyKnownSaid := over
#print axioms proved
end Go.Proofs.Ytmiaeddgacgpfab.polyKnown
