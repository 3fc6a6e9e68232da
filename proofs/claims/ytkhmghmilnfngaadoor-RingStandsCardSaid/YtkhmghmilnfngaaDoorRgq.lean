/-
  The document's ring: where a point stands, how far behind a key a replica's first point is.
-/
import Derived.Test.YtkhmghmilnfngaaDoorRgh
import Derived.Test.YtkhmghmilnfngaaDoorRgp
import Derived.Test.YtkhmghmilnfngaaDoorRR
import Derived.Test.YtkhmghmilnfngaaDoorDn
namespace Go.Proofs.YtkhmghmilnfngaaDoor
set_option maxRecDepth 100000
open Go.ChangeShapes Go.WideShapes Go.ChangeAt Go.RowKit
set_option linter.unusedVariables false
set_option linter.unusedSimpArgs false

set_option maxRecDepth 100000 in
set_option maxHeartbeats 1000000 in
theorem refoneR (w : World) (k : Nat) (hk : k < 256) : Calls Tryd.prog 44 #[.int .i64 (k : Int)] w fun e w' => e = .returned (.string (strOf [UInt8.ofNat k])) ∧ Below w.heap.size w w' := by
  have hw : IntKind.u8.wrap (k : Int) = (k : Int) := by simp [IntKind.wrap, IntKind.signed, IntKind.bits]; omega
  have hm : (k : Int) % 256 = (k : Int) := by omega
  have hcv := conv_one k w
  rw [show k % 256 = k by omega, hm] at hcv
  have HB := hidrg_ ((Below.refl w.heap.size w).alloc (Nat.le_refl _) (.cells #[.int .u8 (k : Int)] 5))
  go_enter Tryd.func44, Tryd.ntmps44
  go_wp2
  go_ret
  exact ⟨rfl, HB.out⟩
def U64P (w : World) (z : Nat) (e : Ending) (w' : World) : Prop := e = .returned (.int .u64 (z : Int)) ∧ Below w.heap.size w w'
set_option maxRecDepth 100000 in
set_option maxHeartbeats 2000000 in
theorem place_any (w : World) (r p : Nat) (hr : r < 256) (hp : p < 256) :
    Calls Tryd.prog 37 #[.int .i64 (r : Int), .int .i64 (p : Int)] w (U64P w (plcS r p)) := by
  have c1 := refoneR w r hr
  have c2 := fun W => refoneR W p hp
  obtain ⟨x, hx⟩ : ∃ x, UInt8.ofNat r = x := ⟨_, rfl⟩
  obtain ⟨y, hy⟩ : ∃ y, UInt8.ofNat p = y := ⟨_, rfl⟩
  have HD : plcS r p = beN ((sha [114, 105, 110, 103, x, y]).take 8) := by rw [← hx, ← hy]; rfl
  rw [hx] at c1
  rw [hy] at c2
  have e1 : (⟨#[114, 105, 110, 103]⟩ : ByteArray) ++ strOf [x] = strOf [114, 105, 110, 103, x] := strOf_append [114, 105, 110, 103] [x]
  have e2 : strOf [114, 105, 110, 103, x] ++ strOf [y] = strOf [114, 105, 110, 103, x, y] := strOf_append [114, 105, 110, 103, x] [y]
  have s1 : (strOf [x]).size = 1 := strOf_size _
  have s2 : (strOf [114, 105, 110, 103, x]).size = 5 := strOf_size _
  have s3 : (strOf [y]).size = 1 := strOf_size _
  have s0 : (⟨#[114, 105, 110, 103]⟩ : ByteArray).size = 4 := rfl
  have cs := fun W => refSum_any [114, 105, 110, 103, x, y] W (by simp)
  have hDl := sha_len [114, 105, 110, 103, x, y]
  generalize sha [114, 105, 110, 103, x, y] = D at *
  have e3 := strOf_take D 8
  have s4 : (strOf D).size = 32 := by rw [strOf_size, hDl]
  have cw := fun W => refWord_high (D.take 8) 8 (by rw [List.length_take, hDl]; rfl) (by omega) W
  have HDD := hidrg_ HD
  clear hx hy HD hDl
  go_enter Tryd.func37, Tryd.ntmps37
  go_wp2_with (first
    | (go_at_call 44; (first
      | ((with_reducible refine c1.mono ?_); clear c1; rintro e w2 ⟨rfl, hb⟩; have B2 := hidrg_ hb; clear hb)
      | ((with_reducible refine (c2 _).mono ?_); clear c2; rintro e w3 ⟨rfl, hb⟩; have B3 := hidrg_ (B2.out.trans (hb.mono B2.out.size)); clear hb)))
    | (go_at_call 43; ((with_reducible refine (cs _).mono ?_); clear cs; rintro e w4 ⟨rfl, hb⟩; have B4 := hidrg_ (B3.out.trans (hb.mono B3.out.size)); clear hb))
    | (go_at_call 36; ((with_reducible refine (cw _).mono ?_); clear cw; rintro e w5 ⟨rfl, rfl⟩)))
  go_ret
  exact ⟨by rw [HDD.out]; rfl, B4.out⟩
theorem run_minU (a d n : Nat) (hn : n = min a d) (w : World) (ts : Array TypeId) (t : TypeId) :
    (Builtin.min_ ts t #[.int .u64 (a : Int), .int .u64 (d : Int)]).run Tryd.prog w = .ok (.int .u64 (n : Int)) w := by
  simp [Builtin.min_, Builtin.min2]
  repeat' split
  all_goals omega
theorem plcS_lt (r p : Nat) : plcS r p < 18446744073709551616 := plB_lt _
theorem dst_wrap (pl p : Nat) (h1 : pl < 18446744073709551616) (h2 : p < 18446744073709551616) : IntKind.u64.wrap ((p : Int) - (pl : Int)) = ((dst pl p : Nat) : Int) := by
  rw [IntKind.wrap_u64]
  unfold dst
  omega
set_option maxRecDepth 100000 in
set_option maxHeartbeats 2000000 in
theorem near_any (w : World) (K : List UInt8) (hK : K.length = 32) (r k : Nat) (hr : r < 256) (hk : k ≤ 64) :
    Calls Tryd.prog 25 #[.string (strOf K), .int .i64 (r : Int), .int .i64 (k : Int)] w (U64P w (nearR plcS (plB K) r k)) := by
  have e3 := strOf_take K 8
  have s4 : (strOf K).size = 32 := by rw [strOf_size, hK]
  have cw := refWord_high (K.take 8) 8 (by rw [List.length_take, hK]; rfl) (by omega) w
  have hpl := plB_lt K
  rw [show beN (K.take 8) = plB K from rfl] at cw
  generalize plB K = pl at *
  go_enter Tryd.func25, Tryd.ntmps25
  go_upto_region 3 with (go_at_call 36; ((with_reducible refine cw.mono ?_); clear cw; rintro e w5 ⟨rfl, rfl⟩))
  clear e3 s4 hK
  go_wp2
  go_loopw [9, 8] (fun i o wr => ∃ (p : Nat), i = .int .i64 p ∧ p ≤ k ∧ o = .int .u64 ((nearR plcS pl r p : Nat) : Int) ∧ Hid (Below w.heap.size w wr)) (fun i _ _ => k - (intOf i).toNat)
  case atStart => exact ⟨0, rfl, Nat.zero_le _, rfl, hidrg_ (Below.refl _ _)⟩
  case round =>
    obtain ⟨p, rfl, hp, rfl, HB⟩ := hrel
    by_cases hlt : p < k
    · have tl : (p : Int) < (k : Int) := by omega
      have cp := place_any wr r p hr (by omega)
      have hn := (show nearR plcS pl r (p + 1) = min (nearR plcS pl r p) (dst pl (plcS r p)) from rfl)
      have hw := dst_wrap pl (plcS r p) hpl (plcS_lt r p)
      obtain ⟨n', h1⟩ : ∃ z, nearR plcS pl r (p + 1) = z := ⟨_, rfl⟩
      rw [h1] at hn
      have HN := hidrg_ h1
      clear h1
      generalize nearR plcS pl r p = n0 at *
      generalize dst pl (plcS r p) = d0 at *
      generalize plcS r p = q0 at *
      have hm := fun W ts t => run_minU n0 d0 n' hn W ts t
      clear hn
      go_wp2_with (go_at_call 37; ((with_reducible refine cp.mono ?_); clear cp; rintro e w6 ⟨rfl, hb⟩; have B6 := hidrg_ (HB.out.trans (hb.mono HB.out.size)); clear hb))
      go_roundw
      case rel => exact ⟨p + 1, by go_num, by omega, by rw [HN.out], B6⟩
      case measure => simp [intOf]; omega
    · have tl : ¬ (p : Int) < (k : Int) := by omega
      have HE := hidrg_ (show p = k by omega)
      go_wp2
      go_ret
      exact ⟨by rw [HE.out]; rfl, HB.out⟩
end Go.Proofs.YtkhmghmilnfngaaDoor
