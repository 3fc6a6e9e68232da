/-
  Proved: for every number ChachaKnown answers true: the block of the example, and that of noughts, are known. No condition.
-/
import Derived.Test.YtilgpblfdfhioaaK9
import Derived.Test.YtilgpblfdfhioaaLp
namespace Go.Proofs.Ytilgpblfdfhioaa.chachaKnown
open Go.ChangeShapes Go.WideShapes Go.ChangeAt Go.RowKit
set_option linter.unusedVariables false
set_option linter.unusedSimpArgs false

theorem hid_ {p : Prop} (h : p) : Hid p := h
theorem u64_nat (z : Int) : ∃ x : Nat, IntKind.u64.wrap z = (x : Int) ∧ x ≤ 18446744073709551615 := by
  have h : IntKind.u64.wrap z = z % 18446744073709551616 := by simp [IntKind.wrap, IntKind.signed, IntKind.bits]
  rw [h]
  exact ⟨(z % 18446744073709551616).toNat, by omega, by omega⟩
def keyK (k : Nat) : List UInt8 := (List.range 32).map fun i => if i < k then UInt8.ofNat i else 0
theorem keyK_set (k : Nat) (h : k < 32) : (keyK k).set k (UInt8.ofNat k) = keyK (k + 1) := by
  have h3 : ∀ k : Fin 32, (keyK k.val).set k.val (UInt8.ofNat k.val) = keyK (k.val + 1) := by decide +kernel
  exact h3 ⟨k, h⟩
theorem keyK_len (k : Nat) : (keyK k).length = 32 := by simp [keyK]
theorem keyK_zero : keyK 0 = zbytes 32 := by decide +kernel
theorem zb32 (W : World) : (zeroValue 27).run Try.prog W = .ok (.agg (rowOf (keyK 0))) W := by kernel_rfl
def nonK : List UInt8 := [0, 0, 0, 9, 0, 0, 0, 74, 0, 0, 0, 0]
def wantK : List UInt8 := [16, 241, 231, 228, 209, 59, 89, 21, 80, 15, 221, 31, 163, 32, 113, 196]
theorem known : (blockB (keyK 32) 1 nonK).take 16 = wantK := by decide +kernel
def KnC (g : Nat) (A : Option Addr) (b : List UInt8) (w0 w : World) : Prop := Bk w g 30 (rowOf b) ∧ Rd w w.heap.size A wantK ∧ Below w0.heap.size w0 w
theorem KnC.below {g : Nat} {A : Option Addr} {b : List UInt8} {w0 w w' : World} (h : KnC g A b w0 w) (hb : Below w.heap.size w w') : KnC g A b w0 w' :=
  ⟨h.1.below hb h.1.lt, (h.2.1.below hb).more hb.size, h.2.2.trans (hb.mono h.2.2.size)⟩

set_option maxRecDepth 100000 in
set_option maxHeartbeats 4000000 in
theorem walk (z : Int) (w : World) :
    Calls Try.prog 6 #[.int .i64 z] w fun e w' => e = .returned (.bool true) ∧ Below w.heap.size w w' := by
  have hzb := zb64
  have hz32 := zb32
  obtain ⟨x, hx, hxb⟩ := u64_nat z
  obtain ⟨k, hk⟩ : ∃ k : Nat, Hid (x % 16 = k) := ⟨_, rfl⟩
  have hk16 : k < 16 := by have := hk.out; omega
  have hxk : (x : Int) % 16 = (k : Int) := by have := hk.out; omega
  obtain ⟨g, hg⟩ : ∃ g, Hid (w.heap.size = g) := ⟨_, rfl⟩
  have A0 : Hid (Bk (w.alloc (.cells (rowOf (keyK 0)) 27)) g 27 (rowOf (keyK 0))) := hid_ (by rw [← hg.out]; exact Bk.new w _ _)
  have R0 : Hid (Below g w (w.alloc (.cells (rowOf (keyK 0)) 27))) := hid_ (by rw [← hg.out]; exact (Below.refl _ _).alloc (Nat.le_refl _) _)
  have cb := fun W => block_any (keyK 32) nonK 1 W (keyK_len 32) rfl ⟨by decide, by decide⟩
  have LB := hid_ (blockB_len (keyK 32) 1 nonK)
  have KN := hid_ known
  obtain ⟨b, hb⟩ : ∃ x, Hid (blockB (keyK 32) 1 nonK = x) := ⟨_, rfl⟩
  rw [hb.out] at cb LB KN
  have EB := hid_ (ib64 b LB.out)
  have SB : Hid ((rowOf (zbytes 64)).size = (rowOf b).size) := hid_ (by rw [rowOf_size, rowOf_size, LB.out, zbytes_len])
  have EK := hid_ (ib32 (keyK 32) (keyK_len 32))
  go_enter Try.func6, Try.ntmps6
  go_wp2
  rw [hg.out]
  go_loopw [4] (fun i wr => ∃ j : Nat, j ≤ 32 ∧ i = .int .i64 j ∧ Bk wr g 27 (rowOf (keyK j)) ∧ Below g w wr) (fun i _ => 32 - (intOf i).toNat)
  case atStart => exact ⟨0, by omega, rfl, A0.out, R0.out⟩
  case round =>
    obtain ⟨j, hj, rfl, h1, h2⟩ := hrel
    have H1 := hid_ h1
    have H2 := hid_ h2
    clear h1 h2 A0 R0
    by_cases hlt : j < 32
    · have hd : decide ((j : Int) < 32) = true := decide_eq_true (by omega)
      have hc := H1.out.cell j
      rw [rowOf_at _ _ (by rw [keyK_len]; exact hlt)] at hc
      have hf := H1.out.frozen j
      have hset := H1.out.set_ j (.int .u8 ((UInt8.ofNat j).toNat : Int))
      have hkb : (((UInt8.ofNat j).toNat : Nat) : Int) = (j : Int) := by
        have : (UInt8.ofNat j).toNat = j := by simp; omega
        rw [this]
      rw [rowOf_set, keyK_set j hlt, hkb] at hset
      have HS := hid_ hset
      have t0 : (0 : Int) ≤ (j : Int) := by omega
      have t32 : (j : Int) < 32 := by omega
      have hw8 : IntKind.u8.wrap (j : Int) = (j : Int) := by simp [IntKind.wrap, IntKind.signed, IntKind.bits]; omega
      clear hset hkb
      go_wp2
      go_roundw
      case rel => exact ⟨j + 1, by omega, by go_num, HS.out, H2.out.setCell (by simp) _⟩
      case measure => simp [intOf]; omega
    · have hj32 : Hid (j = 32) := hid_ (by omega)
      have hd : decide ((j : Int) < 32) = false := decide_eq_false (by omega)
      have A1 := H1.out
      rw [hj32.out] at A1
      have cb1 := cb wr
      clear cb H1
      go_upto_region 7 with (first
        | (refine wpList_load_row rfl 27 (.tmp 3) rfl g rfl 27 (rowOf (keyK 32)) (0, 0) _ A1 Try.underlying27 rfl EK.out ?_)
        | (refine wpList_built rfl 29 _ rfl (rowOf nonK) (by kernel_rfl) ?_)
        | (go_at_call 27; ((with_reducible refine cb1.mono ?_); rintro e w1 ⟨rfl, g1⟩; have HB1 := hid_ g1; clear g1))
        | (refine wpList_put_row rfl 30 (.tmp 5) (.tmp 18) rfl w1.heap.size (rowOf b) rfl rfl 30 (rowOf (zbytes 64)) (Bk.new w1 _ _) EB.out SB.out (bytes_one _) ?_; intro w2 k2 g2 s2))
      rw [put_none]
      have Y1 := H2.out.trans (HB1.out.mono (by have := H2.out.size; have h : g ≤ w.heap.size := by rw [hg.out]; exact Nat.le_refl _
                                                omega))
      have hgl : g ≤ w.heap.size := by rw [hg.out]; exact Nat.le_refl _
      have Y2 := hid_ ((Y1.alloc (by have := Y1.size; omega) (.cells (rowOf (zbytes 64)) 30)).grown g2 (by have := Y1.size; simp; omega) (fun i hi => by injection hi with hi; have := Y1.size; omega))
      obtain ⟨gb, hgb⟩ : ∃ x, Hid (w1.heap.size = x) := ⟨_, rfl⟩
      rw [hgb.out] at k2 ⊢
      obtain ⟨w3, hw3⟩ : ∃ W, Hid (w2.alloc (.cells (rowOf wantK) 5) = W) := ⟨_, rfl⟩
      have K3 : Hid (Bk w3 gb 30 (rowOf b)) := hid_ (by rw [← hw3.out]; exact k2.alloc _)
      have W3 : Hid (Blk8 w3 w2.heap.size wantK) := hid_ (by rw [← hw3.out]; exact Blk8.new w2 wantK)
      have Y3 : Hid (Below g w w3) := hid_ (by rw [← hw3.out]; exact Y2.out.alloc (by have := Y2.out.size; omega) _)
      obtain ⟨gw, hgw⟩ : ∃ x, Hid (w2.heap.size = x) := ⟨_, rfl⟩
      rw [hgw.out] at W3
      obtain ⟨v, hv⟩ : ∃ v, Hid ((((wantK.getD k 0).toNat : Nat) : Int) = v) := ⟨_, rfl⟩
      have hbk : b.getD k 0 = wantK.getD k 0 := by
        rw [← KN.out]
        simp [List.getD, List.getElem?_take, hk16]
      have HL1 : Hid (∀ W : World, Below w3.heap.size w3 W → W.cell? ⟨gb, k, none⟩ = some (.int .u8 v)) := hid_ (fun W h => by
        rw [(K3.out.below h K3.out.lt).cell, rowOf_at _ _ (by rw [LB.out]; omega), hbk, hv.out])
      have HL2 : Hid (∀ W : World, Below w3.heap.size w3 W → W.cell? ⟨gw, k, none⟩ = some (.int .u8 v)) := hid_ (fun W h => (W3.out.below h W3.out.lt).cell k (by show k < 16; exact hk16) |>.trans (by rw [hv.out]))
      have HT1 : Hid (∀ W : World, Below w3.heap.size w3 W → Calls Try.prog 28 #[] W fun e w' => e = .returned (.bool true) ∧ Below w3.heap.size w3 w') := hid_ (fun W h => (streams_any W).mono fun e w' hh => ⟨hh.1, h.trans (hh.2.mono h.size)⟩)
      have hrow : rowOf wantK = #[.int .u8 16, .int .u8 241, .int .u8 231, .int .u8 228, .int .u8 209, .int .u8 59, .int .u8 89, .int .u8 21, .int .u8 80, .int .u8 15, .int .u8 221, .int .u8 31, .int .u8 163, .int .u8 32, .int .u8 113, .int .u8 196] := rfl
      have HROW := hid_ hrow
      have t0 : (0 : Int) ≤ (k : Int) := by omega
      have t16 : (k : Int) < 16 := by omega
      have t64 : (k : Int) < 64 := by omega
      clear k2 g2 s2 hrow Y1 hbk H2 HB1 cb1 A1 hzb hz32
      rename_i K hK
      go_upto_region 9 with fail
      rw [hgw.out, ← HROW.out, hw3.out]
      refine region_quiet_in (C := fun W => Below w3.heap.size w3 W) (by kernel_rfl) (by kernel_rfl) ((Below.refl _ _).drew) ?_
      repeat (go_big_quiet_want; (first
        | (refine BigFrame.quiet_move _ rfl ?_; go_simp)
        | (refine BigFrame.quiet_assign _ rfl ?_; go_simp)
        | (refine quiet_run (.pointer (some ⟨gb, k, none⟩)) ?_ ?_; (focus (intro W hW; go_simp; done)); go_simp)
        | (refine quiet_run (.pointer (some ⟨gw, k, none⟩)) ?_ ?_; (focus (intro W hW; go_simp; done)); go_simp)
        | (refine quiet_run (.int .u8 v) ?_ ?_; (focus (intro W hW; have h := HL1.out W hW; go_simp; done)); go_simp)
        | (refine quiet_run (.int .u8 v) ?_ ?_; (focus (intro W hW; have h := HL2.out W hW; go_simp; done)); go_simp)
        | (refine quiet_run (.bool true) ?_ ?_; (focus (intro W hW; go_simp; done)); go_simp)
        | (refine quiet_call (.bool true) 28 #[] ?_ HT1.out ?_; (focus (intro W; go_simp; done)); go_simp)); go_big_quiet_on)
      refine wpQuiet_nil ?_
      intro W hW
      have hWb := Y3.out.trans (hW.mono (by have := Y3.out.size; omega))
      rw [← hg.out] at hWb
      have HW := hid_ hWb
      clear hW hWb
      go_wp2
      go_ret
      exact ⟨rfl, HW.out⟩

set_option maxRecDepth 100000 in
theorem lifted (os : Os) (started : os.Started) (H : Type) (enc : TypeId × Value → H) :
    ReturnsInHanded {} Try.checked os 6 .any (Rows.chachaKnownSpec.pre6 enc Try.prog Try.f6 Rows.chachaKnownRow.domain false) (Rows.chachaKnownSpec.post enc Try.prog Try.f6 false true false false) := by
  refine returnsInHanded_of_change (C := Try.checked) own_ started (by kernel_rfl) Try.func6
    (ChangeSpec.witness6 (enc := enc) (C := Try.checked) false ⟨#[], #[.int .i64 0], []⟩ 8 (by kernel_rfl) (by kernel_rfl) (by kernel_rfl) (by kernel_rfl)) ?_
  intro W base args ds gs before hval0 hW hcnd _
  have hval : ∀ (j : Nat) t v, Try.f6.params[j]? = some t → args[j]? = some v → Value.okWide Try.prog W .any base t v := hval0
  have hW' := hW
  obtain ⟨p, q, hA0, hV, rfl, hfz, hnd⟩ := hW
  have hA : DataW.TrodAll enc Try.prog W 0 (fun _ => true) true Try.f6.params.toList args.toList ds p := hA0
  rw [Try.params6] at hA hval
  obtain ⟨v0, vs0, d0, ds0, p0, q0, hargs, rfl, rfl, h0, r0⟩ := trodAll_cons hA
  obtain ⟨rfl, rfl, rfl⟩ := trodAll_nil r0
  obtain rfl : args = #[v0] := by cases args; simp_all
  obtain ⟨rfl, rfl⟩ := trodVars_none hV
  obtain ⟨a0, rfl, rfl, rfl, w0⟩ := open_int Try.underlying3 (hval 0 3 v0 rfl rfl) h0
  obtain ⟨b0, e0⟩ := bounds_i64 w0
  refine (walk a0 W).mono fun e W' ⟨he, hg⟩ => ⟨_, he, ?_⟩
  exact law_post laidOut_ (of_decide_eq_true (by kernel_rfl)) rfl rfl Try.underlying4 rfl hW' hg

theorem over : Rows.chachaKnownRow.holds Try.pinned (OpenSpec.ofChange Rows.chachaKnownSpec) :=
  OpenClaim.holds_of_wide 6 Try.f6 rfl rfl rfl rfl rfl rfl rfl ⟨rfl, rfl, rfl, rfl, rfl⟩ rfl rfl rfl rfl rfl (by kernel_rfl) Try.func6 (by kernel_rfl)
    (of_decide_eq_true (by kernel_rfl)) (by unfold Func.isWrapper; first | (rw [if_pos (by decide +kernel)]; kernel_rfl) | (rw [if_neg (by decide +kernel)]; exact ⟨rfl, rfl⟩))
    (fun os started H enc _ => lifted os started H enc)

theorem proved : Rows.ChachaKnownSaid := over
#print axioms proved
end Go.Proofs.Ytilgpblfdfhioaa.chachaKnown
