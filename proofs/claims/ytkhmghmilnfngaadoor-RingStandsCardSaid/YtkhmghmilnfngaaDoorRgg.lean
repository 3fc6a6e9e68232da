/-
  ring.New of a count of replicas and of points that may be.
-/
import Derived.Test.YtkhmghmilnfngaaDoorRgf
namespace Go.Proofs.YtkhmghmilnfngaaDoor
set_option maxRecDepth 100000
open Go.ChangeShapes Go.WideShapes Go.ChangeAt Go.RowKit
set_option linter.unusedVariables false
set_option linter.unusedSimpArgs false

theorem ownsRow_heapr {w w' : World} {base size n : Nat} {e : TypeId} {v : Value} {xs : List Value} (h : w.ownsRow base e size v n xs) (hg : ∀ g, v.ownBlock = some g → w'.heap[g]? = w.heap[g]?) : w'.ownsRow base e size v n xs := by
  refine ⟨h.1, ?_⟩
  rcases h.2 with h2 | ⟨g, cap, cur, hv, hb, hh, rest⟩
  · exact .inl h2
  · exact .inr ⟨g, cap, cur, hv, hb, (hg g (by rw [hv]; rfl)).trans hh, rest⟩
/-- A ring that is being made. -/
def NwS (w wr : World) (g base : Nat) (l : List PtV) : Prop := ∃ A c, Bk wr g 51 #[.slice A l.length c] ∧ OwnD wr base (.slice A l.length c) l ∧ Below w.heap.size w wr ∧ base ≤ wr.heap.size
def NewRP (w : World) (n k : Nat) (e : Ending) (w' : World) : Prop := ∃ g, e = .returned (.tuple #[.pointer (some ⟨g, 0, none⟩), .int .i64 0]) ∧ RingIs w' g (ringL plcS n k) ∧ Below w.heap.size w w'
theorem zRing (W : World) : (zeroValue 51).run Tryd.prog W = .ok (.agg #[.slice none 0 0]) W := by kernel_rfl
theorem rdd_one (w : World) (x : PtV) : RdD (w.alloc (.cells #[.int .u64 (x.p : Int), .int .i64 (x.r : Int)] 55)) (w.alloc (.cells #[.int .u64 (x.p : Int), .int .i64 (x.r : Int)] 55)).heap.size (some ⟨w.heap.size, 0, none⟩) [x] := fun _ =>
  ⟨_, 0, rfl, by simp, fun j hj => by
    have : j = 0 := by simpa using hj
    subst this
    exact ⟨World.cell?_alloc_mark w #[.int .u64 (x.p : Int), .int .i64 (x.r : Int)] 55 _ 0, World.cell?_alloc_mark w #[.int .u64 (x.p : Int), .int .i64 (x.r : Int)] 55 _ 1⟩⟩
set_option maxRecDepth 100000 in
set_option maxHeartbeats 4000000 in
theorem new_any (w : World) (n k : Nat) (h1 : 1 ≤ n) (h2 : n ≤ 8) (h3 : 1 ≤ k) (h4 : k ≤ 64) (ht : Tab w) (hg1 : 0 < w.heap.size) :
    Calls Tryd.prog 10 #[.int .i64 (n : Int), .int .i64 (k : Int)] w (NewRP w n k) := by
  obtain ⟨g, hg⟩ : ∃ g, w.heap.size = g := ⟨_, rfl⟩
  obtain ⟨w1, hw1⟩ : ∃ W, w.alloc (.cells #[.slice none 0 0] 51) = W := ⟨_, rfl⟩
  obtain ⟨base, hbase⟩ : ∃ x, w1.heap.size = x := ⟨_, rfl⟩
  have s1 : base = g + 1 := by rw [← hbase, ← hw1, ← hg]; simp
  have HS0 := hidrg_ (show NwS w w1 g base (ptsL plcS 0 k) from ⟨none, 0, by have kk := Bk.new w 51 #[.slice none 0 0]; rw [hw1, hg] at kk; exact kk, OwnD.nil_ _ _, by rw [← hw1]; exact (Below.refl _ _).alloc (Nat.le_refl _) _, by omega⟩)
  have HGB := hidrg_ (show g < base by omega)
  have HG := hidrg_ (show w.heap.size ≤ g by omega)
  have HT := hidrg_ ht
  have hz := zRing
  have t1 : ¬ (n : Int) < 1 := by omega
  have t2 : ¬ 8 < (n : Int) := by omega
  have t3 : ¬ (k : Int) < 1 := by omega
  have t4 : ¬ 64 < (k : Int) := by omega
  clear ht hbase s1
  go_enter Tryd.func10, Tryd.ntmps10
  go_wp2
  clear t1 t2 t3 t4
  go_loopw [27] (fun i wr => ∃ (r : Nat), i = .int .i64 r ∧ r ≤ n ∧ Hid (NwS w wr g base (ptsL plcS r k))) (fun i _ => n - (intOf i).toNat)
  case atStart => exact ⟨0, rfl, Nat.zero_le _, HS0⟩
  case round =>
    clear HS0
    obtain ⟨r, rfl, hrn, HSr⟩ := hrel
    by_cases hlt : r < n
    · have tl : (r : Int) < (n : Int) := by omega
      go_wp2
      clear tl
      go_loopw [31] (fun i wr => ∃ (p : Nat), i = .int .i64 p ∧ p ≤ k ∧ Hid (NwS w wr g base (ptsL plcS r k ++ ptsR plcS p r))) (fun i _ => k - (intOf i).toNat)
      case atStart => exact ⟨0, rfl, Nat.zero_le _, hidrg_ (by have e : ptsL plcS r k ++ ptsR plcS 0 r = ptsL plcS r k := List.append_nil _; rw [e]; exact HSr.out)⟩
      case round =>
        clear HSr
        obtain ⟨p, rfl, hpk, HSp⟩ := hrel
        by_cases hlt2 : p < k
        · have tl : (p : Int) < (k : Int) := by omega
          obtain ⟨l, hl⟩ : ∃ l, ptsL plcS r k ++ ptsR plcS p r = l := ⟨_, rfl⟩
          have HLL := hidrg_ (show ptsL plcS r k ++ ptsR plcS (p + 1) r = l ++ [⟨plcS r p, r⟩] by rw [ptsR_succ, ← List.append_assoc, hl])
          rw [hl] at HSp
          obtain ⟨m, hm⟩ : ∃ m, l.length = m := ⟨_, rfl⟩
          have hm6 : m ≤ 1000 := by
            rw [← hm, ← hl, List.length_append, ptsL_len, ptsR_len]
            have : r * k ≤ 8 * 64 := Nat.mul_le_mul (by omega) h4
            omega
          obtain ⟨A, c, hbk, how, hB, hbs⟩ := HSp.out
          rw [hm] at hbk how
          have HMM := hidrg_ hm
          have BK := hidrg_ hbk
          have OW := hidrg_ how
          have HB := hidrg_ hB
          have HBS := hidrg_ hbs
          obtain ⟨gx, hgx⟩ : ∃ x, wr.heap.size = x := ⟨_, rfl⟩
          have kc := Lib.run_convert_bytes_const (P := Tryd.prog) wr 38 5 #[.int .u8 114, .int .u8 105, .int .u8 110, .int .u8 103] 4 4 Tryd.underlying38 Tryd.underlying5
          rw [hgx] at kc
          obtain ⟨hp, hb3, hs3⟩ := ring_parts wr r p (by omega) (by omega)
          unfold ring4 at hp hb3 hs3
          rw [hgx] at hp hb3 hs3
          have cs := sum_any (some ⟨gx + 1 + 1, 0, none⟩) 2 2 [[114, 105, 110, 103], [UInt8.ofNat r, UInt8.ofNat p]] _ rfl hp (by omega) (by simp) (fun t h => ((HB.out.trans (hb3.mono (by rw [← hgx]; exact HB.out.size))).cell hg1).trans (HT.out t h)) (by have := HB.out.size; have := hb3.size; omega)
          rw [show ([[114, 105, 110, 103], [UInt8.ofNat r, UInt8.ofNat p]] : List (List UInt8)).flatten = [114, 105, 110, 103, UInt8.ofNat r, UInt8.ofNat p] from rfl] at cs
          have BX := hidrg_ hb3
          have HGX := hidrg_ (show gx = wr.heap.size from hgx.symm)
          have HS3 := hidrg_ hs3
          obtain ⟨D, hD⟩ : ∃ D, sha [114, 105, 110, 103, UInt8.ofNat r, UInt8.ofNat p] = D := ⟨_, rfl⟩
          have HPL := hidrg_ (show plB D = plcS r p by rw [← hD]; rfl)
          have HDL := hidrg_ (show D.length = 32 by rw [← hD]; exact sha_len _)
          rw [hD] at cs
          have wu1 : IntKind.u8.wrap (r : Int) = (r : Int) := by rw [IntKind.wrap_u8]; omega
          have wu2 : IntKind.u8.wrap (p : Int) = (p : Int) := by rw [IntKind.wrap_u8]; omega
          have cp := fun W => placeOf_any W D HDL.out
          rw [HPL.out] at cp
          obtain ⟨z, hz2⟩ : ∃ z, plcS r p = z := ⟨_, rfl⟩
          rw [hz2] at cp HLL
          have k0 := (show wr.cell? ⟨g, 0, none⟩ = some (.slice A m c) from hbk.cell 0)
          clear hl hm hbk how hB hbs hp hb3 hs3 hD hz2 k0
          go_wp2_with (first
            | (go_at_call 19; ((with_reducible refine cs.mono ?_); clear cs; rintro e w4 ⟨rfl, hb⟩; have B4 := hidrg_ (BX.out.trans (hb.mono (by rw [HS3.out]; omega))); have cp2 := cp w4; clear cp hb))
            | (go_at_call 18; ((with_reducible refine cp2.mono ?_); clear cp2; rintro e w5 ⟨rfl, hb⟩; have B5 := hidrg_ (B4.out.trans (hb.mono (by have := B4.out.size; rw [HGX.out]; exact this))); have K5 := hidrg_ (BK.out.below B5.out (by have := BK.out.lt; rw [HGX.out]; exact this)); have k5 := (show w5.cell? ⟨g, 0, none⟩ = some (.slice A m c) from K5.out.cell 0); have O5 := hidrg_ ((OW.out.below B5.out (by rw [HGX.out]; exact Nat.le_refl _)).alloc (.cells #[.int .u64 (z : Int), .int .i64 (r : Int)] 55)); have RP := hidrg_ (rdd_one w5 ⟨z, r⟩); have hl1 : l.length + 1 ≤ 1000000 := (by rw [HMM.out]; omega); have hb1 : base ≤ (w5.alloc (.cells #[.int .u64 (z : Int), .int .i64 (r : Int)] 55)).heap.size := (by simp; have := B5.out.size; have := HBS.out; omega); clear hb))
            | (at_builtin; refine wpList_appDD rfl (.tmp 48) (.tmp 52) rfl O5.out rfl 1 1 rfl RP.out rfl hl1 hb1 ?_; intro A6 c6 w6 q1 q2 q3; rw [HMM.out] at q1 q3 ⊢; have O6 := hidrg_ q1; have K6 := hidrg_ ((K5.out.alloc (.cells #[.int .u64 (z : Int), .int .i64 (r : Int)] 55)).grown q2 (fun e => by have h1 := (World.ownsRow.lt O5.out g e.symm).1; have h2 := HGB.out; omega)); have k6 := (show w6.cell? ⟨g, 0, none⟩ = some (.slice A m c) from K6.out.cell 0); have kf := (show w6.frozen? ⟨g, 0, none⟩ = false from K6.out.frozen 0); have BA := (HB.out.trans (B5.out.mono (by rw [HGX.out]; exact HB.out.size))); have BA2 := BA.alloc BA.size (.cells #[.int .u64 (z : Int), .int .i64 (r : Int)] 55); have B6 := hidrg_ (BA2.grown q2 BA2.size (fun k hk => by have h1 := (World.ownsRow.lt O5.out k hk).1; have h2 := HGB.out; have h3 := HG.out; omega)); have S6 := hidrg_ (show base ≤ w6.heap.size from Nat.le_trans hb1 q2.size); clear q1 q2 q3 k5 BA BA2))
          have HFIN := hidrg_ (show NwS w (w6.setCell ⟨g, 0, none⟩ (.slice A6 (m + 1) c6)) g base (ptsL plcS r k ++ ptsR plcS (p + 1) r) by
            rw [HLL.out]
            have e : (l ++ [(⟨z, r⟩ : PtV)]).length = m + 1 := by rw [List.length_append, HMM.out]; rfl
            refine ⟨A6, c6, ?_, ?_, B6.out.setCell HG.out _, by simpa using S6.out⟩
            · rw [e]
              exact K6.out.set_ 0 _
            · rw [e]
              exact ownsRow_heapr O6.out (fun q hq => Below.heap_setCell _ _ _ q (fun e2 => by have h1 := (World.ownsRow.lt O6.out q hq).1; have h2 := HGB.out; have h3 : q = g := e2; omega)))
          go_roundw
          case rel => exact ⟨p + 1, by go_num, by omega, HFIN⟩
          case measure => simp [intOf]; omega
        · have tl : ¬ (p : Int) < (k : Int) := by omega
          obtain rfl : p = k := by omega
          have HN := hidrg_ (show NwS w wr g base (ptsL plcS (r + 1) p) by rw [ptsL_succ]; exact HSp.out)
          go_wp2
          go_roundw
          case rel => exact ⟨r + 1, by go_num, by omega, HN⟩
          case measure => simp [intOf]; omega
    · have tl : ¬ (r : Int) < (n : Int) := by omega
      obtain rfl : r = n := by omega
      obtain ⟨L, hL⟩ : ∃ L, ptsL plcS r k = L := ⟨_, rfl⟩
      have HRL := hidrg_ (show ringL plcS r k = ssort ltP L by unfold ringL; rw [hL])
      obtain ⟨m, hm⟩ : ∃ m, L.length = m := ⟨_, rfl⟩
      have hm0 : 0 < m := by rw [← hm, ← hL, ptsL_len]; exact Nat.mul_pos h1 h3
      have hm6 : m ≤ 1000 := by
        rw [← hm, ← hL, ptsL_len]
        have : r * k ≤ 8 * 64 := Nat.mul_le_mul h2 h4
        omega
      rw [hL] at HSr
      obtain ⟨A, c, hbk, how, hB, hbs⟩ := HSr.out
      rw [hm] at hbk how
      obtain ⟨b, rfl⟩ : ∃ b, A = some ⟨b, 0, none⟩ := by
        rcases how.2 with ⟨_, h0⟩ | ⟨b, cap, cur, hv, _⟩
        · omega
        · injection hv with e1
          exact ⟨b, e1⟩
      have cs := sort_pts wr base b m c L hm (by omega) how
      have BK := hidrg_ hbk
      have OW := hidrg_ how
      have HBB := hidrg_ hB
      have HMM := hidrg_ hm
      have k0 := (show wr.cell? ⟨g, 0, none⟩ = some (.slice (some ⟨b, 0, none⟩) m c) from hbk.cell 0)
      clear hbk how hB hbs hL hm HSr
      go_wp2_with (go_at_call 20; ((with_reducible refine cs.mono ?_); clear cs; rintro e w2 ⟨rfl, ho, hgr⟩; have O2 := hidrg_ ho; have G2 := hidrg_ hgr; clear ho hgr))
      go_ret2
      exact ⟨g, rfl, ⟨some ⟨b, 0, none⟩, c, by rw [HRL.out, ssort_len, HMM.out]; exact BK.out.grown G2.out (fun e => by have h5 := (World.ownsRow.lt OW.out b rfl).1; have h6 := HGB.out; injection e with e; omega), by rw [HRL.out]; exact O2.out.rd.1⟩, HBB.out.grown G2.out HBB.out.size (fun q hq => by injection hq with hq; have h5 := (World.ownsRow.lt OW.out b rfl).1; have h6 := HGB.out; have h7 := HG.out; omega)⟩
end Go.Proofs.YtkhmghmilnfngaaDoor
