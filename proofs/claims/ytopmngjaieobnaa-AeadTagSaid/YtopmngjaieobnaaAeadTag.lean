/-
  Proved: for all inputs AeadTag answers true: what is sealed with one bit of its tag changed isn't opened. No condition.
-/
import Derived.Test.YtopmngjaieobnaaEg
import Derived.Test.YtopmngjaieobnaaFr
import Derived.Test.YtopmngjaieobnaaLp
import Derived.Deep.DeepCutAuto
namespace Go.Proofs.Ytopmngjaieobnaa.aeadTag
open Go.ChangeShapes Go.WideShapes Go.ChangeAt Go.RowKit
set_option linter.unusedVariables false
set_option linter.unusedSimpArgs false

theorem hid_ {p : Prop} (h : p) : Hid p := h
theorem u64_nat (z : Int) : ∃ x : Nat, IntKind.u64.wrap z = (x : Int) ∧ x ≤ 18446744073709551615 := by
  refine ⟨(z % 18446744073709551616).toNat, ?_, by omega⟩
  rw [IntKind.wrap_u64]
  omega
/-- One bit. -/
def bitB (j : Nat) : UInt8 := UInt8.ofNat (2 ^ (j % 8))
theorem bitB_nat (j : Nat) : (bitB j).toNat = 2 ^ (j % 8) := by
  have h : ∀ i : Fin 8, (UInt8.ofNat (2 ^ i.val)).toNat = 2 ^ i.val := by decide
  exact h ⟨j % 8, by omega⟩
theorem bitB_ne (j : Nat) : bitB j ≠ 0 := by
  intro e
  have h := congrArg UInt8.toNat e
  rw [bitB_nat] at h
  have : 0 < 2 ^ (j % 8) := Nat.pow_pos (by omega)
  have h0 : (0 : UInt8).toNat = 0 := rfl
  omega
theorem bitB_int (j : Nat) : (2 : Int) ^ (j % 8) % 256 = (((bitB j).toNat : Nat) : Int) := by
  have h : ∀ i : Fin 8, (2 : Int) ^ i.val % 256 = ((2 ^ i.val : Nat) : Int) := by decide
  rw [bitB_nat]
  exact h ⟨j % 8, by omega⟩
theorem turned_ne (v : UInt8) (j : Nat) : v ^^^ bitB j ≠ v := by
  intro e
  apply bitB_ne j
  have : v ^^^ (v ^^^ bitB j) = v ^^^ v := by rw [e]
  simpa [← UInt8.xor_assoc] using this
theorem set_ne (l : List UInt8) (i : Nat) (v : UInt8) (h : i < l.length) (hv : v ≠ l.getD i 0) : l.set i v ≠ l := by
  intro e
  have h1 := congrArg (fun m => m.getD i 0) e
  simp [List.getD, h] at h1
  apply hv
  simp [List.getD, h, h1]

theorem changed (key nonce S : List UInt8) (n i : Nat) (u : UInt8) (hl : S.length = n + 16) (ho : tagB key nonce [] (S.take n) = S.drop n) (h1 : n ≤ i) (h2 : i < n + 16) (hu : u ≠ S.getD i 0) :
    tagB key nonce [] ((S.set i u).take n) ≠ (S.set i u).drop n := by
  have e1 : (S.set i u).take n = S.take n := by
    rw [List.take_set, List.set_eq_of_length_le (by rw [List.length_take]; omega)]
  have e2 : (S.set i u).drop n = (S.drop n).set (i - n) u := by
    rw [List.drop_set, if_neg (by omega)]
  rw [e1, e2, ho]
  intro e
  refine set_ne (S.drop n) (i - n) u (by rw [List.length_drop]; omega) ?_ e.symm
  have : (S.drop n).getD (i - n) 0 = S.getD i 0 := by
    simp only [List.getD, List.getElem?_drop]
    rw [show n + (i - n) = i by omega]
  rw [this]
  exact hu

set_option maxRecDepth 100000 in
set_option maxHeartbeats 4000000 in
theorem walk (w : World) (key nonce : List UInt8) (hk : key.length = 32) (hn : nonce.length = 12) (A1 : Option Addr) (l1 : List UInt8) (c1 : Nat) (h1 : Rd w w.heap.size A1 l1) (hc1 : l1.length ≤ c1) (hcm1 : c1 ≤ 9223372036854775807) (z : Int) :
    Calls Try.prog 7 #[.agg (rowOf (key ++ nonce)), .slice A1 l1.length c1, .int .i64 z] w fun e w' => e = .returned (.bool true) ∧ Below w.heap.size w w' := by
  obtain ⟨n, hn1⟩ : ∃ n, n = min l1.length 150 := ⟨_, rfl⟩
  obtain ⟨x, hx, hxb⟩ := u64_nat z
  obtain ⟨k, hkk⟩ : ∃ k : Nat, (x : Int) % 128 = (k : Int) := ⟨x % 128, by omega⟩
  have hk128 : k < 128 := by omega
  have hm1 := fun W => run_min2 l1.length 150 n hn1 W
  rw [show ((150 : Nat) : Int) = 150 from rfl] at hm1
  have hs1 := fun W => slice_to A1 l1.length c1 (n : Int) n rfl (by omega) W
  have LX : Hid ((l1.take 150).length = n) := hid_ (by rw [List.length_take, hn1, Nat.min_comm])
  have b1 : n ≤ 150 := by omega
  have d1 : n ≤ c1 := by omega
  obtain ⟨g, hg⟩ : ∃ g, Hid (w.heap.size = g) := ⟨_, rfl⟩
  obtain ⟨w0, hw0⟩ : ∃ W, Hid (w.alloc (.cells (rowOf (key ++ nonce)) 34) = W) := ⟨_, rfl⟩
  have B0 : Hid (Bk w0 g 34 (rowOf (key ++ nonce))) := hid_ (by rw [← hw0.out, ← hg.out]; exact Bk.new w _ _)
  have X0 : Hid (Below g w w0) := hid_ (by rw [← hw0.out, ← hg.out]; exact (Below.refl _ _).alloc (Nat.le_refl _) _)
  have R1 : Hid (Rd w0 w0.heap.size A1 (l1.take 150)) := hid_ (by
    have h := ((h1.take 150).alloc (Nat.le_refl _) (.cells (rowOf (key ++ nonce)) 34)).more (B' := w0.heap.size) (by rw [← hw0.out]; simp)
    rwa [hw0.out] at h)
  have HK := hid_ hk
  have HN := hid_ hn
  have I32 := hid_ (ib32 key hk)
  have I12 := hid_ (ib12 nonce hn)
  clear h1 hc1 hk hn hn1
  generalize l1.take 150 = y at *
  generalize l1.length = p1 at *
  have cs := seal_any key nonce none 0 0 [] A1 n c1 y w0 HK.out HN.out rfl LX.out Rd.nil R1.out d1 hcm1 (by omega) (by omega)
  have SL : Hid ((sealB key nonce [] y).length = n + 16) := hid_ (by rw [sealB_len, LX.out])
  have SO := hid_ (seal_opens key nonce [] y n LX.out)
  obtain ⟨S, hS⟩ : ∃ S, Hid (sealB key nonce [] y = S) := ⟨_, rfl⟩
  rw [hS.out] at cs SL SO
  have HK0 := hid_ (sg_key B0.out)
  have HK1 := hid_ (sg_nonce HK.out B0.out)
  have hsz0 : g ≤ w0.heap.size := Nat.le_of_lt B0.out.lt
  have hlt0 : g < w0.heap.size := B0.out.lt
  go_enter Try.func7, Try.ntmps7
  go_upto_region 1 with fail
  rw [hg.out, hw0.out]
  clear hw0
  go_upto_region 3 with (first
    | (refine wpList_load_sub rfl 22 (.tmp 16) rfl g 0 rfl (rowOf key) HK0.out _ Try.underlying22 rfl I32.out ?_)
    | (refine wpList_load_sub rfl 32 (.tmp 18) rfl g 32 rfl (rowOf nonce) HK1.out _ Try.underlying32 rfl I12.out ?_)
    | (go_at_call 17; ((with_reducible refine cs.mono ?_); rintro e w3 ⟨A3, c3, rfl, ho3, hb3⟩; have HO3 := hid_ ho3; have HB3 := hid_ hb3; clear ho3 hb3)))
  have B3 := hid_ (B0.out.below HB3.out B0.out.lt)
  have X3 := hid_ (X0.out.trans (HB3.out.mono hsz0))
  have hcap := HO3.out.cap
  clear cs HK0 HK1 B0 X0 R1 hm1 hs1
  have cse := fun W => seals_any W
  have hd0 : decide ((n : Int) + 16 < 16) = false := decide_eq_false (by omega)
  go_upto_region 6 with (go_at_call 19; ((with_reducible refine (cse _).mono ?_); rintro e w4 ⟨rfl, hb4⟩; have HB4 := hid_ hb4; clear hb4))
  have B4 := hid_ (B3.out.below HB4.out B3.out.lt)
  have X4 := hid_ (X3.out.trans (HB4.out.mono (Nat.le_of_lt B3.out.lt)))
  have HO4 := hid_ (HO3.out.below HB4.out (Nat.le_refl _))
  obtain ⟨q, rfl⟩ := HO4.out.block_ (by omega)
  obtain ⟨i, hi⟩ : ∃ i, Hid (n + k / 8 = i) := ⟨_, rfl⟩
  have hii : (n : Int) + (k : Int) / 8 = (i : Int) := by have : n + k / 8 = i := hi.out; omega
  have hin : i < n + 16 := by have : n + k / 8 = i := hi.out; omega
  have hni : n ≤ i := by have : n + k / 8 = i := hi.out; omega
  have hc := HO4.out.cellz i hin
  have hf := HO4.out.frozenz i
  obtain ⟨v, hv⟩ : ∃ v, Hid (S.getD i 0 = v) := ⟨_, rfl⟩
  have hvb := v.toNat_lt
  rw [hv.out] at hc
  clear cse HO3 HB3 B3 X3 HB4
  have q1 : IntKind.i64.wrap ((n : Int) + 16 - 16) = (n : Int) := by
    have : (n : Int) + 16 - 16 = (n : Int) := by omega
    rw [this]; exact IntWalk.i64_in _ (by omega)
  have q2 : (n : Int) + 16 - 16 = (n : Int) := by omega
  have q3 : IntKind.i64.wrap (n : Int) = (n : Int) := IntWalk.i64_in _ (by omega)
  have q4 : IntKind.i64.wrap (i : Int) = (i : Int) := IntWalk.i64_in _ (by omega)
  have q5 : (0 : Int) ≤ (k : Int) % 8 := by omega
  have q6 : ((k : Int) % 8).toNat = k % 8 := by omega
  have q7 : (i : Int) < (n : Int) + 16 := by omega
  refine region_quiet_tail_lit 14 (by kernel_rfl) (by kernel_rfl) ?_
  simp only [List.take_succ_cons, List.take_zero]
  repeat (go_big_quiet_step (fail))
  refine wpQuiet_nil ?_
  intro w' hw'
  obtain ⟨nq, rfl⟩ := hw'
  simp only [List.drop_succ_cons, List.drop_zero]
  have HX8 : Hid (bits .xor .u8 ((v.toNat : Nat) : Int) ((2 : Int) ^ (k % 8) % 256) = (((v ^^^ bitB k).toNat : Nat) : Int)) := hid_ (by rw [bitB_int, xor8])
  rw [HX8.out]
  have hset := (HO4.out.drewN nq).put_ i (v ^^^ bitB k)
  have hqg : g < q := Nat.lt_of_lt_of_le hlt0 hset.2
  have B5 := hid_ ((B4.out.drewN nq).far (p := ⟨q, i, none⟩) (by simp; omega) (.int .u8 (((v ^^^ bitB k).toNat : Nat) : Int)))
  have X5 := hid_ ((below_drewN X4.out nq).setCell (p := ⟨q, i, none⟩) (by simp; omega) (.int .u8 (((v ^^^ bitB k).toNat : Nat) : Int)))
  have HO5 := hid_ hset.1
  have hf5 : (w4.drewN nq).frozen? ⟨q, i, none⟩ = false := hf
  have hc5 : (w4.drewN nq).cell? ⟨q, i, none⟩ = some (.int .u8 ((v.toNat : Nat) : Int)) := hc
  have hch := changed key nonce S n i (v ^^^ bitB k) SL.out SO.out hni hin (by rw [hv.out]; exact turned_ne v k)
  have SL2 : Hid ((S.set i (v ^^^ bitB k)).length = n + 16) := hid_ (by rw [List.length_set, SL.out])
  clear hset hc hf HO4 B4 X4 q1 q2 q3 q4
  generalize S.set i (v ^^^ bitB k) = S' at *
  generalize (((v ^^^ bitB k).toNat : Nat) : Int) = u at *
  generalize w4.drewN nq = w5 at *
  refine wpList_plain rfl fun K hK => ?_
  go_simp
  refine hK _ _ ?_
  clear hK K
  rename_i K hK
  refine hK _ _ ?_
  obtain ⟨w6, hw6⟩ : ∃ W, Hid (w5.setCell ⟨q, i, none⟩ (.int .u8 u) = W) := ⟨_, rfl⟩
  rw [hw6.out] at B5 X5 HO5 ⊢
  clear hf5 hc5 hw6
  have co := aopen_no key nonce none 0 0 [] (some ⟨q, 0, none⟩) n c3 S' w6 HK.out HN.out rfl SL2.out Rd.nil HO5.out.rd.1 hcap.1 hcap.2 (by omega) (by omega) hch
  clear hch
  have HK0 := hid_ (sg_key B5.out)
  have HK1 := hid_ (sg_nonce HK.out B5.out)
  go_wp2_with (first
    | (refine wpList_load_sub rfl 22 (.tmp 48) rfl g 0 rfl (rowOf key) HK0.out _ Try.underlying22 rfl I32.out ?_)
    | (refine wpList_load_sub rfl 32 (.tmp 50) rfl g 32 rfl (rowOf nonce) HK1.out _ Try.underlying32 rfl I12.out ?_)
    | (go_at_call 18; ((with_reducible refine co.mono ?_); rintro e w7 ⟨rfl, hb7⟩; have HB7 := hid_ hb7; clear hb7)))
  go_ret
  exact ⟨rfl, by rw [hg.out]; exact X5.out.trans (HB7.out.mono (Nat.le_of_lt B5.out.lt))⟩

set_option maxRecDepth 100000 in
theorem lifted (os : Os) (started : os.Started) (H : Type) (enc : TypeId × Value → H) :
    ReturnsInHanded {} Try.checked os 7 .any (Rows.aeadTagSpec.pre6 enc Try.prog Try.f7 Rows.aeadTagRow.domain false) (Rows.aeadTagSpec.post enc Try.prog Try.f7 false true false false) := by
  refine returnsInHanded_of_change (C := Try.checked) own_ started (by kernel_rfl) Try.func7
    (ChangeSpec.witness6 (enc := enc) (C := Try.checked) false ⟨#[], #[.agg (rowOf (zbytes 44)), .slice none 0 0, .int .i64 0], []⟩ 8 (by kernel_rfl) (by kernel_rfl) (by kernel_rfl) (by kernel_rfl)) ?_
  intro W base args ds gs before hval0 hW hcnd _
  have hval : ∀ (j : Nat) t v, Try.f7.params[j]? = some t → args[j]? = some v → Value.okWide Try.prog W .any base t v := hval0
  have hW' := hW
  obtain ⟨p, q, hA0, hV, rfl, hfz, hnd⟩ := hW
  have hA : DataW.TrodAll enc Try.prog W 0 (fun _ => true) true Try.f7.params.toList args.toList ds p := hA0
  rw [Try.params7] at hA hval
  obtain ⟨v0, vs0, d0, ds0, p0, q0, hargs, rfl, rfl, h0, r0⟩ := trodAll_cons hA
  obtain ⟨v1, vs1, d1, ds1, p1, q1, rfl, rfl, rfl, h1, r1⟩ := trodAll_cons r0
  obtain ⟨v2, vs2, d2, ds2, p2, q2, rfl, rfl, rfl, h2, r2⟩ := trodAll_cons r1
  obtain ⟨rfl, rfl, rfl⟩ := trodAll_nil r2
  obtain rfl : args = #[v0, v1, v2] := by cases args; simp_all
  obtain ⟨rfl, rfl⟩ := trodVars_none hV
  obtain ⟨k0, n0, rfl, hk0, hn0⟩ := open_sealing Try.underlying34 ⟨rfl, rfl⟩ ⟨rfl, rfl⟩ Try.underlying22 (by kernel_rfl) Try.underlying32 Try.underlying5 (by kernel_rfl) (by kernel_rfl) (by kernel_rfl) (hval 0 34 v0 rfl rfl) h0
  obtain ⟨A1, l1, c1, rfl, hr1, hlc1, hcm1⟩ := open_bytes Try.underlying23 Try.underlying5 (by kernel_rfl) (hval 1 23 v1 rfl rfl) h1
  obtain ⟨a2, rfl, rfl, rfl, w2⟩ := open_int Try.underlying3 (hval 2 3 v2 rfl rfl) h2
  obtain ⟨b2, e2⟩ := bounds_i64 w2
  refine (walk W k0 n0 hk0 hn0 A1 l1 c1 hr1 hlc1 (by unfold maxLen at hcm1; omega) a2).mono fun e W' ⟨he, hg⟩ => ⟨_, he, ?_⟩
  exact law_post laidOut_ (of_decide_eq_true (by kernel_rfl)) rfl rfl Try.underlying4 rfl hW' hg

theorem over : Rows.aeadTagRow.holds Try.pinned (OpenSpec.ofChange Rows.aeadTagSpec) :=
  OpenClaim.holds_of_wide 7 Try.f7 rfl rfl rfl rfl rfl rfl rfl ⟨rfl, rfl, rfl, rfl, rfl⟩ rfl rfl rfl rfl rfl (by kernel_rfl) Try.func7 (by kernel_rfl)
    (of_decide_eq_true (by kernel_rfl)) (by unfold Func.isWrapper; first | (rw [if_pos (by decide +kernel)]; kernel_rfl) | (rw [if_neg (by decide +kernel)]; exact ⟨rfl, rfl⟩))
    (fun os started H enc _ => lifted os started H enc)

theorem proved : Rows.AeadTagSaid := over
#print axioms proved
end Go.Proofs.Ytopmngjaieobnaa.aeadTag
