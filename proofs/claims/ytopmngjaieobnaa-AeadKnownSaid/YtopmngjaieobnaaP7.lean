/-
  casketlaw06.tags: a tag by a key that begins with noughts.
-/
import Derived.Test.YtopmngjaieobnaaP6
import Derived.Lib.SlBytesConst
namespace Go.Proofs.Ytopmngjaieobnaa
open Go.RowKit
set_option linter.unusedVariables false

def tkey (k : Nat) : List UInt8 := (List.range 32).map fun i => if 16 ≤ i ∧ i < k then UInt8.ofNat i else 0
theorem tkey_set (k : Nat) (h : 16 ≤ k) (h2 : k < 32) : (tkey k).set k (UInt8.ofNat k) = tkey (k + 1) := by
  have h3 : ∀ k : Fin 32, 16 ≤ k.val → (tkey k.val).set k.val (UInt8.ofNat k.val) = tkey (k.val + 1) := by decide +kernel
  exact h3 ⟨k, h2⟩ h
theorem tkey_len (k : Nat) : (tkey k).length = 32 := by simp [tkey]
theorem tkey_tag : polyTag (tkey 32) [97, 98, 99] = (tkey 32).drop 16 := by decide +kernel
theorem z32 (W : World) : (zeroValue 22).run Try.prog W = .ok (.agg (rowOf (zbytes 32))) W := by kernel_rfl

set_option maxRecDepth 100000 in
set_option maxHeartbeats 2000000 in
theorem tags_any (w : World) : Calls Try.prog 15 #[] w fun e w' => e = .returned (.bool true) ∧ Below w.heap.size w w' := by
  have hz := z32
  have hz16 := z16
  have k1 := fun (W : World) (C : Array Value) (n c : Nat) => Lib.run_convert_bytes_const (P := Try.prog) W 23 5 C n c Try.underlying23 Try.underlying5
  have k2 : ∀ (W : World) (g : Nat) (hg : W.heap.size = g), (convert 23 23 (.slice (some ⟨g, 0, none⟩) 3 3)).run Try.prog (W.alloc (.cells #[.int .u8 97, .int .u8 98, .int .u8 99] 5)) = .ok (.slice (some ⟨g, 0, none⟩) 3 3) (W.alloc (.cells #[.int .u8 97, .int .u8 98, .int .u8 99] 5 (3, 4))) := fun W g hg => by subst hg; exact k1 W _ 3 3
  clear k1
  have e32 : ∀ l : List UInt8, l.length = 32 → (Try.prog.info? 22).map (·.size) = some (rowOf l).size := fun l h => by rw [rowOf_size, h]; exact i32_
  have E32 := hid_ e32
  have e16 : ∀ l : List UInt8, l.length = 16 → (Try.prog.info? 24).map (·.size) = some (rowOf l).size := fun l h => by rw [rowOf_size, h]; exact i16_
  have E16 := hid_ e16
  have a0 : Bk (w.alloc (.cells (rowOf (zbytes 32)) 22)) w.heap.size 22 (rowOf (tkey 16)) := Bk.new w _ _
  have A0 := hid_ a0
  clear e32 e16 a0
  go_enter Try.func15, Try.ntmps15
  go_wp2
  go_loopw [2] (fun i wr => ∃ k : Nat, 16 ≤ k ∧ k ≤ 32 ∧ i = .int .i64 k ∧ Bk wr w.heap.size 22 (rowOf (tkey k)) ∧ Below w.heap.size w wr) (fun i _ => 32 - (intOf i).toNat)
  case atStart => exact ⟨16, by omega, by omega, rfl, A0.out, (Below.refl _ _).alloc (Nat.le_refl _) _⟩
  case round =>
    obtain ⟨k, hk1, hk2, rfl, b0, bb⟩ := hrel
    have B0 := hid_ b0
    have BB := hid_ bb
    clear b0 bb A0
    by_cases hlt : k < 32
    · have hc := B0.out.cell k
      rw [rowOf_at _ _ (by rw [tkey_len]; exact hlt)] at hc
      have hf := B0.out.frozen k
      have hset := B0.out.set_ k (.int .u8 ((UInt8.ofNat k).toNat : Int))
      have hkb : (((UInt8.ofNat k).toNat : Nat) : Int) = (k : Int) := by
        have : (UInt8.ofNat k).toNat = k := by simp; omega
        rw [this]
      rw [rowOf_set, tkey_set k hk1 hlt, hkb] at hset
      have HS := hid_ hset
      have t0 : (0 : Int) ≤ (k : Int) := by omega
      have t32 : (k : Int) < 32 := by omega
      have hw8 : IntKind.u8.wrap (k : Int) = (k : Int) := by simp [IntKind.wrap, IntKind.signed, IntKind.bits]; omega
      clear hset hkb
      go_wp2
      go_roundw
      case rel => exact ⟨k + 1, by omega, by omega, by go_num, HS.out, BB.out.setCell (by simp) _⟩
      case measure => simp [intOf]; omega
    · have hk32 : k = 32 := by omega
      have B1 := B0.out
      rw [hk32] at B1
      have hgl := B1.lt
      have hwb := BB.out.size
      have kk := k2 wr wr.heap.size rfl
      obtain ⟨G, hG⟩ : ∃ G, Hid (wr.heap.size = G) := ⟨_, rfl⟩
      obtain ⟨w1, hw1⟩ : ∃ w1, Hid (wr.alloc (.cells #[.int .u8 97, .int .u8 98, .int .u8 99] 5 (3, 4)) = w1) := ⟨_, rfl⟩
      have r1 : Rd w1 w1.heap.size (some ⟨G, 0, none⟩) [97, 98, 99] := by
        rw [← hw1.out, ← hG.out]
        refine fun _ => ⟨_, 0, rfl, by simp, fun j hj => ?_⟩
        rw [Nat.zero_add, World.cell?_alloc_mark]
        match j, hj with
        | 0, _ | 1, _ | 2, _ => rfl
      have B2 : Bk w1 w.heap.size 22 (rowOf (tkey 32)) := by rw [← hw1.out]; exact B1.alloc _
      have X2 : Below w.heap.size w w1 := by rw [← hw1.out]; exact BB.out.alloc hwb _
      have ct := tag_any (tkey 32) (some ⟨G, 0, none⟩) 3 3 [97, 98, 99] w1 (tkey_len 32) rfl (by omega) (by omega) r1
      rw [tkey_tag] at ct
      obtain ⟨T, hT⟩ : ∃ T, Hid ((tkey 32).drop 16 = T) := ⟨_, rfl⟩
      have hTl : T.length = 16 := by rw [← hT.out]; rfl
      have hTd : Hid ((tkey 32).drop 16 = T) := hT
      rw [hT.out] at ct
      rw [hG.out, hw1.out] at kk
      clear k2 hk32 r1
      go_upto_region 7 with (first
        | (refine wpList_load_row rfl 22 (.tmp 1) rfl w.heap.size rfl 22 (rowOf (tkey 32)) (0, 0) _ B1 Try.underlying22 rfl (E32.out _ (tkey_len _)) ?_)
        | (rw [hG.out])
        | (go_at_call 14; ((with_reducible refine ct.mono ?_); rintro e w3 ⟨rfl, hb3⟩))
        | (refine wpList_put_row rfl 24 (.tmp 3) (.tmp 15) rfl w3.heap.size (rowOf T) rfl rfl 24 (rowOf (zbytes 16)) (Bk.new w3 _ _) (E16.out _ hTl) (by rw [rowOf_size, rowOf_size, hTl, zbytes_len]) (bytes_one _) ?_; intro w4 k4 g4 s4))
      rw [put_none]
      have X3 := X2.trans (hb3.mono X2.size)
      have X4 := (X3.alloc X3.size (.cells (rowOf (zbytes 16)) 24)).grown g4 (by have := X3.size; simp; omega) (fun i hi => by injection hi with hi; have := X3.size; omega)
      have B3 := B2.below hb3 B2.lt
      have hlt3 := B3.lt
      have B4 := (B3.alloc (.cells (rowOf (zbytes 16)) 24)).grown g4 (fun e => by injection e with e; omega)
      have HB4 := hid_ B4
      have HK4 := hid_ k4
      have HX4 := hid_ X4
      have HC1 : Hid (∀ W : World, Below w4.heap.size w4 W → (convert 23 9 (.slice (some ⟨w3.heap.size, 0, none⟩) 16 16)).run Try.prog W = .ok (.string (strOf T)) W) := hid_ (fun W h => conv_strn ((HK4.out.below h HK4.out.lt).rd (Nat.lt_succ_self _)) 16 16 hTl)
      have HC2 : Hid (∀ W : World, Below w4.heap.size w4 W → (convert 23 9 (.slice (some ⟨w.heap.size, 16, none⟩) 16 16)).run Try.prog W = .ok (.string (strOf T)) W) := hid_ (fun W h => by
        have hr := ((HB4.out.below h HB4.out.lt).rd (Nat.lt_succ_self _)).drop 16
        rw [Nat.zero_add, hTd.out] at hr
        exact conv_strn hr 16 16 hTl)
      have s1 := slice_all16 w3.heap.size
      have s2 := slice_from32 w.heap.size 16 (by omega)
      clear k4 g4 s4 X4 B4 X3 hb3 B3 hlt3 kk ct B1 B2 X2
      refine region_quiet_in (C := fun W => Below w4.heap.size w4 W) (by kernel_rfl) (by kernel_rfl) ((Below.refl _ _).drew) ?_
      repeat (go_big_quiet_want; (first
        | (refine BigFrame.quiet_move _ rfl ?_; go_simp)
        | (refine BigFrame.quiet_assign _ rfl ?_; go_simp)
        | (refine quiet_run (.slice (some ⟨w3.heap.size, 0, none⟩) 16 16) ?_ ?_; (focus (intro W hW; go_simp; done)); go_simp)
        | (refine quiet_run (.slice (some ⟨w.heap.size, 16, none⟩) 16 16) ?_ ?_; (focus (intro W hW; go_simp; done)); go_simp)
        | (refine quiet_run (.string (strOf T)) ?_ ?_; (focus (intro W hW; have h := HC1.out W hW; go_simp; done)); go_simp)
        | (refine quiet_run (.string (strOf T)) ?_ ?_; (focus (intro W hW; have h := HC2.out W hW; go_simp; done)); go_simp)
        | (refine quiet_run (.bool true) ?_ ?_; (focus (intro W hW; go_simp; done)); go_simp)); go_big_quiet_on)
      refine wpQuiet_nil ?_
      intro W hW
      have hWb := HX4.out.trans (hW.mono HX4.out.size)
      clear hW
      go_wp2
      go_ret
      exact ⟨rfl, hWb⟩
end Go.Proofs.Ytopmngjaieobnaa
