/-
  Contract: poly.Tag.
-/
import Derived.Test.YtopmngjaieobnaaP5
namespace Go.Proofs.Ytopmngjaieobnaa
open Go.RowKit
set_option linter.unusedVariables false

/-! ### Tags, as plain functions -/
def clampL (x : Nat) : Nat := (bits .and .u64 (x : Int) 1152921487695413247).toNat
def clampH (x : Nat) : Nat := (bits .and .u64 (x : Int) 1152921487695413244).toNat
theorem clampL_eq (x : Nat) : bits .and .u64 (x : Int) 1152921487695413247 = ((clampL x : Nat) : Int) ∧ clampL x ≤ 18446744073709551615 := by
  have h := bounds_u64 (wf_bits .and .u64 (x : Int) 1152921487695413247)
  unfold clampL
  omega
theorem clampH_eq (x : Nat) : bits .and .u64 (x : Int) 1152921487695413244 = ((clampH x : Nat) : Int) ∧ clampH x ≤ 18446744073709551615 := by
  have h := bounds_u64 (wf_bits .and .u64 (x : Int) 1152921487695413244)
  unfold clampH
  omega
/-- The key's factor. -/
def factN (key : List UInt8) : N5 := numN (clampL (leN ((key.take 16).take 8)) : Nat) (clampH (leN ((key.take 16).drop 8)) : Nat) 0
theorem factN_le (key : List UInt8) : (factN key).le 67108863 := by
  have h1 := (clampL_eq (leN ((key.take 16).take 8))).2
  have h2 := (clampH_eq (leN ((key.take 16).drop 8))).2
  exact numN_le ⟨by omega, by omega⟩ ⟨by omega, by omega⟩ ⟨by omega, by omega⟩
/-- The number behind k parts. -/
def accP (f : Int) (b : List UInt8) : Nat → Int
  | 0 => 0
  | k + 1 => (accP f b k + ((leN ((b.drop (16 * k)).take 16) + 256 ^ ((b.drop (16 * k)).take 16).length : Nat) : Int)) * f % primeP
/-- The tag. -/
def polyTag (key b : List UInt8) : List UInt8 := lowB 16 ((accP (factN key).val b ((b.length + 15) / 16) + ((leN (key.drop 16) : Nat) : Int)) % 340282366920938463463374607431768211456).toNat
theorem polyTag_len (key b : List UInt8) : (polyTag key b).length = 16 := lowB_len _ _
theorem accP_step (s f p : N5) (a n : Int) (hp : p.val = n) (h : s.val % primeP = a) (hr : (redN (mulN (addN s p) f)).val % primeP = (mulN (addN s p) f).val % primeP) : (redN (mulN (addN s p) f)).val % primeP = (a + n) * f.val % primeP := by
  rw [hr]
  have h1 := mulN_val (addN s p) f
  rw [addN_val, hp] at h1
  have h2 : (mulN (addN s p) f).val = (s.val + n) * f.val + primeP * (-(mulQ (addN s p) f)) := by rw [Int.mul_neg]; omega
  rw [h2, Int.add_mul_emod_self_left, ← h, Int.mul_emod, Int.add_emod]
  conv => rhs; rw [Int.mul_emod, Int.add_emod, Int.emod_emod_of_dvd _ (Int.dvd_refl _)]

section
variable {P : Program} {C : World → Prop} {o : Oper} {a : Act} {K : Act → Prop}
/-- A whole row, read in a quiet region. -/
theorem quiet_load_row (ty : TypeId) (x : Operand) (ho : o.op = .load ty x) (g : Nat) (hx : a.eval x = .pointer (some ⟨g, 0, none⟩)) (t : TypeId) (cs : Array Value) (d : TypeDesc)
    (hu : P.underlying ty = some d) (hd : (match d with | .struct _ | .array _ _ => true | _ => false) = true) (hi : (P.info? ty).map (·.size) = some cs.size)
    (hC : ∀ W, C W → Bk W g t cs) (hk : K (a.put o.dst (.agg cs))) : o.quiet P a C K :=
  quiet_run (.agg cs) (fun W hW => by
    have hrun : (loadVar ty ⟨g, 0, none⟩).run P W = .ok (.agg cs) W := run_loadVar_row _ _ _ _ _ (0, 0) _ (hC W hW) hu hd hi
    unfold execOp
    simp only [ho, hx, Instr.loadAt, Instr.sureAddr, Sem.run_bind, Sem.run_pure, Result.andThen_ok, hrun]) hk
end
theorem i32_ : (Try.prog.info? 22).map (·.size) = some 32 := by kernel_rfl
theorem size32 (W : World) : (sizeOf (Try.prog.elem 22)).run Try.prog W = .ok 1 W := by
  have he : Try.prog.elem 22 = 5 := by kernel_rfl
  rw [he]
  obtain ⟨i, hi, hz, hsize, hby⟩ := info_parts info8
  simp [sizeOf, typeInfo, hi, hsize]
theorem slice_to32 (g k : Nat) (hk : k ≤ 32) (W : World) :
    (Instr.sliceAt 22 (.pointer (some ⟨g, 0, none⟩)) none (some (.int .i64 (k : Int))) none).run Try.prog W = .ok (.slice (some ⟨g, 0, none⟩) k 32) W := by
  have he : Try.prog.elem 22 = 5 := by kernel_rfl
  have hn : Try.prog.arrayLen 22 = 32 := by kernel_rfl
  have ht : Try.prog.underlying 22 = some (.array (Try.prog.arrayLen 22) (Try.prog.elem 22)) := by rw [he, hn]; exact Try.underlying22
  rw [run_sliceAt_array_h W 22 ⟨g, 0, none⟩ ht .i64 k (by omega) (by rw [hn]; omega), size32, hn]
  simp only [Result.andThen, slicedAt, Int.toNat_natCast, Nat.mul_one]
  rw [if_neg (by omega)]
  congr 3
set_option maxRecDepth 100000 in
theorem slice_from32 (g k : Nat) (hk : k < 32) (W : World) :
    (Instr.sliceAt 22 (.pointer (some ⟨g, 0, none⟩)) (some (.int .i64 (k : Int))) none none).run Try.prog W = .ok (.slice (some ⟨g, k, none⟩) (32 - k) (32 - k)) W := by
  have he : Try.prog.elem 22 = 5 := by kernel_rfl
  have hn : Try.prog.arrayLen 22 = 32 := by kernel_rfl
  have ht : Try.prog.underlying 22 = some (.array (Try.prog.arrayLen 22) (Try.prog.elem 22)) := by rw [he, hn]; exact Try.underlying22
  rw [run_sliceAt_array_l W 22 ⟨g, 0, none⟩ ht .i64 k (by omega) (by rw [hn]; omega), size32, hn]
  simp only [Result.andThen, slicedAt, Int.toNat_natCast, Nat.mul_one]
  rw [if_neg (by omega)]
  congr 3
  unfold Addr.add
  split
  · congr 1; omega
  · simp

set_option maxRecDepth 100000 in
set_option maxHeartbeats 4000000 in
theorem tag_any (key : List UInt8) (A : Option Addr) (n c : Nat) (b : List UInt8) (w : World) (hk : key.length = 32) (hn : b.length = n) (hc : n ≤ c) (hcm : c ≤ 9223372036854775807) (hr : Rd w w.heap.size A b) :
    Calls Try.prog 14 #[.agg (rowOf key), .slice A n c] w fun e w' => e = .returned (.agg (rowOf (polyTag key b))) ∧ Below w.heap.size w w' := by
  have hz := zN
  have hz16 := z16
  have e5 : ∀ m : N5, (Try.prog.info? 76).map (·.size) = some (nRow m).size := fun m => i5_
  have E5 := hid_ e5
  have e16 : ∀ l : List UInt8, l.length = 16 → (Try.prog.info? 24).map (·.size) = some (rowOf l).size := fun l h => by rw [rowOf_size, h]; exact i16_
  have E16 := hid_ e16
  obtain ⟨w0, hw0⟩ : ∃ w0, Hid ((w.alloc (.cells (rowOf key) 22)).alloc (.cells (rowOf (zbytes 16)) 24) = w0) := ⟨_, rfl⟩
  have a0 : Bk w0 w.heap.size 22 (rowOf key) := by rw [← hw0.out]; exact (Bk.new w _ _).alloc _
  have a1 : Bk w0 (w.heap.size + 1) 24 (rowOf (zbytes 16)) := by rw [← hw0.out]; simpa using Bk.new (w.alloc (.cells (rowOf key) 22)) 24 (rowOf (zbytes 16))
  have hb : Below w.heap.size w w0 := by rw [← hw0.out]; exact ((Below.refl _ _).alloc (Nat.le_refl _) _).alloc (by simp) _
  have s1 := slice_to32 w.heap.size 16 (by omega)
  have s2 := slice_from32 w.heap.size 16 (by omega)
  have cw1 := words_any w.heap.size 0 32 (w.heap.size + 1) (key.take 16) w0 (by rw [List.length_take, hk]; rfl) (by omega) ((rd_of_bk a0 (Nat.lt_succ_self _)).take 16)
  have hx := clampL_eq (leN ((key.take 16).take 8))
  have hy := clampH_eq (leN ((key.take 16).drop 8))
  have cn1 : ∀ W : World, Calls Try.prog 43 #[.int .u64 (clampL (leN ((key.take 16).take 8)) : Nat), .int .u64 (clampH (leN ((key.take 16).drop 8)) : Nat), .int .u64 0] W fun e w' => e = .returned (.agg (nRow (factN key))) ∧ Below W.heap.size W w' := fun W => numberOf_any (clampL (leN ((key.take 16).take 8))) (clampH (leN ((key.take 16).drop 8))) 0 hx.2 hy.2 (by omega) W
  have hfl := factN_le key
  obtain ⟨f, hf⟩ : ∃ f, Hid (factN key = f) := ⟨_, rfl⟩
  rw [hf.out] at cn1 hfl
  obtain ⟨x1, hx1⟩ : ∃ x, Hid (leN ((key.take 16).take 8) = x) := ⟨_, rfl⟩
  obtain ⟨x2, hx2⟩ : ∃ x, Hid (leN ((key.take 16).drop 8) = x) := ⟨_, rfl⟩
  rw [hx1.out] at cw1 hx cn1
  rw [hx2.out] at cw1 hy cn1
  have q1 := hx.1
  have q2 := hy.1
  have A0 := hid_ a0
  have A1 := hid_ a1
  have HB := hid_ hb
  have HR := hid_ hr
  have HN := hid_ hn
  have HK := hid_ hk
  have hl1 := a1.lt
  clear e5 e16 a0 a1 hb hr hx hy hn hk
  go_enter Try.func14, Try.ntmps14
  go_upto_region 1 with fail
  rw [hw0.out]
  go_upto_region 3 with (first
    | (go_at_call 42; ((with_reducible refine cw1.mono ?_); rintro e w' ⟨rfl, rfl⟩))
    | (go_at_call 43; ((with_reducible refine (cn1 _).mono ?_); rintro e w1 ⟨rfl, hb1⟩))
    | (refine wpList_put_row rfl 76 (.tmp 7) (.tmp 19) rfl w1.heap.size (nRow f) rfl rfl 76 (nRow zeroN) (Bk.new w1 _ _) (E5.out _) rfl (nRow_one _) ?_; intro w2 k2 g2 s2'))
  have hs1 := hb1.size
  have KB := ((A0.out.below hb1 A0.out.lt).alloc (.cells (nRow zeroN) 76)).grown g2 (fun e => by injection e with e; omega)
  have AB := ((A1.out.below hb1 A1.out.lt).alloc (.cells (nRow zeroN) 76)).grown g2 (fun e => by injection e with e; omega)
  have XB1 := HB.out.trans (hb1.mono HB.out.size)
  have XB := (XB1.alloc XB1.size (.cells (nRow zeroN) 76)).grown g2 (by have := XB1.size; simp; omega) (fun i hi => by injection hi with hi; have := XB1.size; omega)
  obtain ⟨R, hR⟩ : ∃ R, Hid (w1.heap.size = R) := ⟨_, rfl⟩
  rw [hR.out] at k2 ⊢
  have hRlt := k2.lt
  obtain ⟨S, hS⟩ : ∃ S, Hid (w2.heap.size = S) := ⟨_, rfl⟩
  have hRb : w.heap.size + 1 < R := by rw [← hR.out]; omega
  have hRS : R < S := by rw [← hS.out]; exact hRlt
  have SB : Bk (w2.alloc (.cells (nRow zeroN) 76)) S 76 (nRow zeroN) := by rw [← hS.out]; exact Bk.new w2 _ _
  have HKB := hid_ (KB.alloc (.cells (nRow zeroN) 76))
  have HAB := hid_ (AB.alloc (.cells (nRow zeroN) 76))
  have HFB := hid_ (k2.alloc (.cells (nRow zeroN) 76))
  have HSB := hid_ SB
  have HXB := hid_ (XB.alloc XB.size (.cells (nRow zeroN) 76))
  clear KB AB XB1 XB k2 g2 s2' hb1 hs1 hRlt SB A0 A1 HB cw1 cn1 q1 q2 s1 hl1
  go_wp2
  rw [hS.out]
  go_loopw [1] (fun v wr => ∃ (k m : Nat) (A' : Option Addr) (c' : Nat) (s : N5), v = .slice A' m c' ∧ m ≤ c' ∧ c' ≤ 9223372036854775807 ∧ 16 * k ≤ n + 15 ∧ Hid ((b.drop (16 * k)).length = m) ∧ Hid (Rd wr w.heap.size A' (b.drop (16 * k))) ∧ Hid (Bk wr w.heap.size 22 (rowOf key)) ∧ Hid (Bk wr (w.heap.size + 1) 24 (rowOf (zbytes 16))) ∧ Hid (Bk wr R 76 (nRow f)) ∧ Hid (Bk wr S 76 (nRow s)) ∧ Hid (s.le 67108868) ∧ Hid (0 ≤ s.val ∧ s.val < 1361129467683753853853498429727072845824) ∧ Hid (s.val % primeP = accP f.val b k) ∧ Hid (Below w.heap.size w wr)) (fun v _ => lenOf v)
  case atStart => exact ⟨0, n, A, c, zeroN, rfl, hc, hcm, by omega, HN.out, HR.out.below HXB.out, HKB.out, HAB.out, HFB.out, HSB.out, ⟨by decide, by decide, by decide, by decide, by decide⟩, ⟨by decide, by decide⟩, by show zeroN.val % primeP = 0; decide, HXB.out⟩
  case round =>
    obtain ⟨k, m, A', c', s, rfl, hmc, hcm', hkn, hm, hrd, bk, ba, bf, bs, hle, hv, hacc, hbl⟩ := hrel
    clear HKB HAB HFB HSB HXB
    by_cases h0 : m = 0
    · have hkk : (n + 15) / 16 = k := by
        have h := hm.out
        rw [List.length_drop, HN.out] at h
        omega
      subst h0
      have r16 : Rd wr (w.heap.size + 1) (some ⟨w.heap.size, 16, none⟩) (key.drop 16) := by
        have h := (rd_of_bk bk.out (Nat.lt_succ_self _)).drop 16
        rwa [Nat.zero_add] at h
      have cw2 := words_any w.heap.size 16 16 (w.heap.size + 1) (key.drop 16) wr (by rw [List.length_drop, HK.out]) (by omega) r16
      have b1 := leN8_le ((key.drop 16).take 8) (by rw [List.length_take]; omega)
      have b2 := leN8_le ((key.drop 16).drop 8) (by rw [List.length_drop, List.length_drop, HK.out]; omega)
      have hkey : leN (key.drop 16) = leN ((key.drop 16).take 8) + 18446744073709551616 * leN ((key.drop 16).drop 8) := by
        have h := leN_append ((key.drop 16).take 8) ((key.drop 16).drop 8)
        rw [List.take_append_drop] at h
        have l8 : ((key.drop 16).take 8).length = 8 := by rw [List.length_take, List.length_drop, HK.out]; rfl
        rw [l8, show (256 : Nat) ^ 8 = 18446744073709551616 by decide] at h
        exact h
      have hall := leastN_all hle.out hv.out.1 hv.out.2
      obtain ⟨y1, hy1⟩ : ∃ x, Hid (leN ((key.drop 16).take 8) = x) := ⟨_, rfl⟩
      obtain ⟨y2, hy2⟩ : ∃ x, Hid (leN ((key.drop 16).drop 8) = x) := ⟨_, rfl⟩
      rw [hy1.out] at cw2 b1 hkey
      rw [hy2.out] at cw2 b2 hkey
      have cl := fun W => least_any s hle.out hv.out.1 hv.out.2 W
      have cn : ∀ W : World, Calls Try.prog 43 #[.int .u64 (y1 : Int), .int .u64 (y2 : Int), .int .u64 0] W fun e w' => e = .returned (.agg (nRow (numN y1 y2 0))) ∧ Below W.heap.size W w' := fun W => numberOf_any y1 y2 0 b1 b2 (by omega) W
      have hnl : (numN y1 y2 0).le 67108863 := numN_le ⟨by omega, by omega⟩ ⟨by omega, by omega⟩ ⟨by omega, by omega⟩
      have cp := fun W => plus_any (leastN s) (numN y1 y2 0) (hall.1.mono (by decide)) (hnl.mono (by decide)) W
      have co := fun W => nLowest_any (addN (leastN s) (numN y1 y2 0)) ((addN_le hall.1 hnl).mono (by decide)) W
      have hv2 : (addN (leastN s) (numN y1 y2 0)).val = accP (factN key).val b ((b.length + 15) / 16) + ((leN (key.drop 16) : Nat) : Int) := by
        rw [addN_val, hall.2.1, hacc.out, numN_val, hkey, hf.out, HN.out, hkk]
        omega
      have hres : lowB 16 ((addN (leastN s) (numN y1 y2 0)).val % 340282366920938463463374607431768211456).toNat = polyTag key b := by
        rw [hv2]; rfl
      obtain ⟨sm, hsm⟩ : ∃ x, Hid (addN (leastN s) (numN y1 y2 0) = x) := ⟨_, rfl⟩
      obtain ⟨ls, hls⟩ : ∃ x, Hid (leastN s = x) := ⟨_, rfl⟩
      obtain ⟨nn, hnn⟩ : ∃ x, Hid (numN y1 y2 0 = x) := ⟨_, rfl⟩
      rw [hres, hsm.out] at co
      rw [hsm.out, hls.out, hnn.out] at cp
      rw [hls.out] at cl
      rw [hnn.out] at cn
      obtain ⟨T, hT⟩ : ∃ T, Hid (polyTag key b = T) := ⟨_, rfl⟩
      have hTl : T.length = 16 := by rw [← hT.out]; exact polyTag_len _ _
      rw [hT.out] at co
      have S0 := bs.out
      clear r16 hkey hall hnl hv2 hres hkk
      go_wp2_with (first
        | (go_at_call 42; ((with_reducible refine cw2.mono ?_); rintro e w' ⟨rfl, rfl⟩))
        | (refine wpList_load_row rfl 76 (.tmp 8) rfl S rfl 76 (nRow s) (0, 0) _ S0 Try.underlying76 rfl (E5.out _) ?_)
        | (go_at_call 47; ((with_reducible refine (cl _).mono ?_); rintro e w3 ⟨rfl, hb3⟩))
        | (go_at_call 43; ((with_reducible refine (cn _).mono ?_); rintro e w4 ⟨rfl, hb4⟩))
        | (go_at_call 44; ((with_reducible refine (cp _).mono ?_); rintro e w5 ⟨rfl, hb5⟩))
        | (go_at_call 48; ((with_reducible refine (co _).mono ?_); rintro e w6 ⟨rfl, hb6⟩); have X6 : Below wr.heap.size wr w6 := (hb3.trans ((hb4.mono hb3.size).trans ((hb5.mono (Nat.le_trans hb3.size hb4.size)).trans (hb6.mono (Nat.le_trans (Nat.le_trans hb3.size hb4.size) hb5.size))))); have A6 := ba.out.below X6 ba.out.lt)
        | (refine wpList_put_row rfl 24 (.tmp 4) (.tmp 48) rfl (w.heap.size + 1) (rowOf T) rfl rfl 24 (rowOf (zbytes 16)) A6 (E16.out _ hTl) (by rw [rowOf_size, rowOf_size, hTl, zbytes_len]) (bytes_one _) ?_; intro w12 k12 g12 s12))
      have X7 := hbl.out.trans (X6.mono hbl.out.size)
      exact bodyPost_ret (results_cell_row Try.results14 _ _ (w.heap.size + 1) 24 _ (0, 0) _ rfl k12 Try.underlying24 rfl (E16.out _ hTl)) rfl ⟨by rw [hT.out], X7.grown g12 X7.size (fun i hi => by injection hi with hi; omega)⟩
    · have hlt : 16 * k < n := by
        have h := hm.out
        rw [List.length_drop, HN.out] at h
        omega
      obtain ⟨r, hr⟩ : ∃ r, r = min 16 m := ⟨_, rfl⟩
      have hmn : (if (16 : Int) < (m : Int) then (16 : Int) else (m : Int)) = (r : Int) := by split <;> omega
      have hr1 : 0 < r := by omega
      have hr2 : r ≤ 16 := by omega
      have hr3 : r ≤ m := by omega
      have hpl : ((b.drop (16 * k)).take 16).length = r := by rw [List.length_take, hm.out, hr]
      have hdrop : (b.drop (16 * k)).drop r = b.drop (16 * (k + 1)) := by
        rw [List.drop_drop]
        rcases Nat.lt_or_ge m 16 with h | h
        · have h2 := hm.out
          rw [List.length_drop, HN.out] at h2
          rw [List.drop_eq_nil_of_le (by rw [HN.out]; omega), List.drop_eq_nil_of_le (by rw [HN.out]; omega)]
        · rw [show 16 * k + r = 16 * (k + 1) by omega]
      have hpr := hrd.out.take 16
      have hnext := accP_step s f (partN ((b.drop (16 * k)).take 16)) (accP f.val b k) _ (partN_val _ (by rw [hpl]; omega)) hacc.out
      have hpn := partN_le ((b.drop (16 * k)).take 16) (by rw [hpl]; omega)
      have hacc2 : accP f.val b (k + 1) = (accP f.val b k + ((leN ((b.drop (16 * k)).take 16) + 256 ^ ((b.drop (16 * k)).take 16).length : Nat) : Int)) * f.val % primeP := rfl
      rw [← hacc2] at hnext
      have cpo : ∀ W : World, Below wr.heap.size wr W → Calls Try.prog 45 #[.slice A' r c'] W fun e w' => e = .returned (.agg (nRow (partN ((b.drop (16 * k)).take 16)))) ∧ Below wr.heap.size wr w' := fun W h => (partOf_any A' r c' _ W hpl hr1 hr2 ((hpr.below (h.mono hbl.out.size)).more (Nat.le_trans hbl.out.size h.size))).mono fun e w' hh => ⟨hh.1, h.trans (hh.2.mono h.size)⟩
      obtain ⟨p, hp⟩ : ∃ p, Hid (partN ((b.drop (16 * k)).take 16) = p) := ⟨_, rfl⟩
      rw [hp.out] at hnext hpn cpo
      have hC0 : Below wr.heap.size wr { wr with drawn := wr.drawn + 1 } := (Below.refl _ _).drew
      generalize (b.drop (16 * k)).take 16 = part at hpr cpo
      have hadd : (addN s p).le 268435456 := (addN_le hle.out hpn).mono (by decide)
      have cpl : ∀ W : World, Below wr.heap.size wr W → Calls Try.prog 44 #[.agg (nRow s), .agg (nRow p)] W fun e w' => e = .returned (.agg (nRow (addN s p))) ∧ Below wr.heap.size wr w' := fun W h => (plus_any s p (hle.out.mono (by decide)) (hpn.mono (by decide)) W).mono fun e w' hh => ⟨hh.1, h.trans (hh.2.mono h.size)⟩
      have cti : ∀ W : World, Below wr.heap.size wr W → Calls Try.prog 46 #[.agg (nRow (addN s p)), .agg (nRow f)] W fun e w' => e = .returned (.agg (nRow (redN (mulN (addN s p) f)))) ∧ Below wr.heap.size wr w' := fun W h => (times_any (addN s p) f hadd hfl W).mono fun e w' hh => ⟨hh.1, h.trans (hh.2.mono h.size)⟩
      have hra := redN_all ((mulN_le hadd hfl).mono (show (378302363061977088 : Int) ≤ 1000000000000000000 by decide))
      have hnx := hnext hra.2.2.2
      have CPO := hid_ cpo
      have CPL := hid_ cpl
      have CTI := hid_ cti
      have HRA := hid_ hra
      have HNX := hid_ hnx
      obtain ⟨s', hs'⟩ : ∃ s', Hid (redN (mulN (addN s p) f) = s') := ⟨_, rfl⟩
      obtain ⟨sp, hsp⟩ : ∃ sp, Hid (addN s p = sp) := ⟨_, rfl⟩
      rw [hs'.out] at HRA HNX CTI
      rw [hsp.out] at CPL CTI
      have hsl := slice_to A' m c' (r : Int) r rfl (by omega)
      have hsf := slice_from A' m c' r hr3
      have hmp : (0 : Int) < (m : Int) := by omega
      clear hr cpo cpl cti hra hnx hnext hacc2 hpr hadd
      go_upto_region 6 with fail
      refine region_quiet_tail (C := fun W => Below wr.heap.size wr W) 8 (by kernel_rfl) (by kernel_rfl) hC0 ?_
      simp only [List.take_succ_cons, List.take_zero]
      repeat (go_big_quiet_want; (first
        | (refine BigFrame.quiet_move _ rfl ?_; go_simp)
        | (refine quiet_load_row 76 (.tmp 8) rfl S rfl 76 (nRow s) _ Try.underlying76 rfl (E5.out _) (fun W h => bs.out.below h bs.out.lt) ?_; go_simp)
        | (refine quiet_load_row 76 (.tmp 7) rfl R rfl 76 (nRow f) _ Try.underlying76 rfl (E5.out _) (fun W h => bf.out.below h bf.out.lt) ?_; go_simp)
        | (refine quiet_run (.slice A' r c') ?_ ?_; (focus (intro W hW; go_simp; done)); go_simp)
        | (refine quiet_call (.agg (nRow p)) 45 #[.slice A' r c'] ?_ CPO.out ?_; (focus (intro W; go_simp; done)); go_simp)
        | (refine quiet_call (.agg (nRow sp)) 44 #[.agg (nRow s), .agg (nRow p)] ?_ CPL.out ?_; (focus (intro W; go_simp; done)); go_simp)
        | (refine quiet_call (.agg (nRow s')) 46 #[.agg (nRow sp), .agg (nRow f)] ?_ CTI.out ?_; (focus (intro W; go_simp; done)); go_simp)); go_big_quiet_on)
      refine wpQuiet_nil ?_
      intro W hW
      simp only [List.drop_succ_cons, List.drop_zero]
      have hW2 := hid_ hW
      have S3 := bs.out.below hW bs.out.lt
      have Sl := bs.out.lt
      clear hW
      go_wp2_with (refine wpList_put_row rfl 76 (.tmp 8) (.tmp 33) rfl S (nRow s') rfl rfl 76 (nRow s) S3 (E5.out _) rfl (nRow_one _) ?_; intro w5 k5 g5 s5)
      have x5 := (hbl.out.trans (hW2.out.mono hbl.out.size)).grown g5 (Nat.le_trans hbl.out.size hW2.out.size) (fun i hi => by injection hi with hi; omega)
      have hfin : Rd w5 w.heap.size (if c' = r then A' else A'.map (·.add r)) (b.drop (16 * (k + 1))) := by
        rw [← hdrop]
        refine rd_from ?_ c' r (by rw [hm.out]; exact hr3) (by rw [hm.out]; exact hmc)
        exact hrd.out.keep (fun q hq => (x5.cell hq).trans (hbl.out.cell hq).symm)
      go_roundw
      case rel =>
        exact ⟨k + 1, m - r, _, c' - r, s', rfl, by omega, by omega, by omega, (by show _ = _; rw [← hdrop, List.length_drop, hm.out]), hfin, (bk.out.below hW2.out bk.out.lt).grown g5 (fun e => by injection e with e; omega), (ba.out.below hW2.out ba.out.lt).grown g5 (fun e => by injection e with e; omega), (bf.out.below hW2.out bf.out.lt).grown g5 (fun e => by injection e with e; omega), k5, HRA.out.1, ⟨HRA.out.2.1, HRA.out.2.2.1⟩, HNX.out, x5⟩
      case measure => simp [lenOf]; omega
end Go.Proofs.Ytopmngjaieobnaa
