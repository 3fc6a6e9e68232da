/-
  Proved: for all clients and counters KeysParts answers true: the order of nonces is that of their numbers: of one client's the later one is above, byte by byte. No condition.
-/
import Derived.Test.YtjfidfcfhdkciabDoorHd
import Derived.BigQuiet
namespace Go.Proofs.YtjfidfcfhdkciabDoor.keysParts
open Go.ChangeShapes Go.WideShapes Go.ChangeAt Go.RowKit
set_option linter.unusedVariables false
set_option linter.unusedSimpArgs false

theorem hid_ {p : Prop} (h : p) : Hid p := h
theorem bytesLess_be : ∀ (x y : List UInt8), x.length = y.length → Op.bytesLess x y = decide (beN x < beN y)
  | [], [], _ => by simp [Op.bytesLess, beN]
  | [], _ :: _, h => by simp at h
  | _ :: _, [], h => by simp at h
  | a :: x, b :: y, h => by
    have hl : x.length = y.length := by simpa using h
    have ih := bytesLess_be x y hl
    have hx := beN_lt x
    have hy := beN_lt y
    rw [hl] at hx
    rw [Op.bytesLess, ih, beN_cons, beN_cons, hl]
    generalize 256 ^ y.length = P at *
    generalize beN x = X at *
    generalize beN y = Y at *
    rcases Nat.lt_trichotomy a.toNat b.toNat with h1 | h1 | h1
    · have h2 : a < b := UInt8.lt_iff_toNat_lt.2 h1
      have h3 : (a.toNat + 1) * P ≤ b.toNat * P := Nat.mul_le_mul_right P h1
      rw [Nat.add_mul, Nat.one_mul] at h3
      simp [h2]
      omega
    · have h2 : a = b := UInt8.toNat_inj.1 h1
      subst h2
      simp
    · have h2 : ¬ a < b := fun h => by have := UInt8.lt_iff_toNat_lt.1 h; omega
      have h3 : (a == b) = false := by simp; intro e; subst e; omega
      have h4 : (b.toNat + 1) * P ≤ a.toNat * P := Nat.mul_le_mul_right P h1
      rw [Nat.add_mul, Nat.one_mul] at h4
      simp [h2, h3]
      omega
theorem less_nonce (c a b : Nat) (ha : a ≤ 4611686018427387904) (hb : b ≤ 4611686018427387904) : Op.bytesLess (strOf (nonceB c a)).toList (strOf (nonceB c b)).toList = decide (a < b) := by
  rw [strOf_toList, strOf_toList, bytesLess_be _ _ (by rw [nonceB_len, nonceB_len])]
  have p8 : (256 : Nat) ^ 8 = 18446744073709551616 := by decide
  unfold nonceB
  rw [beN_append, beN_append, highB_len, highB_len, beN_highB, beN_highB 8 a, beN_highB 8 b, p8, Nat.mod_eq_of_lt (show a < 18446744073709551616 by omega), Nat.mod_eq_of_lt (show b < 18446744073709551616 by omega)]
  congr 1
  simp
theorem nonce3 (c a : Nat) (hc : c ≤ 16) : ((nonceB c a).getD 3 0).toNat = c := by
  have h : ∀ c, c < 17 → ((highB 4 c).getD 3 0).toNat = c := by decide
  have e : (nonceB c a).getD 3 0 = (highB 4 c).getD 3 0 := by
    unfold nonceB
    simp only [List.getD]
    rw [List.getElem?_append_left (by rw [highB_len]; omega)]
  rw [e]
  exact h c (by omega)
theorem u64_nat (z : Int) : ∃ x : Nat, IntKind.u64.wrap z = (x : Int) ∧ x ≤ 18446744073709551615 := by
  have h : IntKind.u64.wrap z = z % 18446744073709551616 := by simp [IntKind.wrap, IntKind.signed, IntKind.bits]
  rw [h]
  exact ⟨(z % 18446744073709551616).toNat, by omega, by omega⟩
/-- The two nonces, where they lie. -/
structure KpS (w : World) (X Y : List UInt8) (x y : Nat) (W : World) : Prop where
  x : Bk W x 23 (rowOf X)
  y : Bk W y 23 (rowOf Y)
  below : Below w.heap.size w W
theorem KpS.keep {w : World} {X Y : List UInt8} {x y : Nat} {W W' : World} (h : KpS w X Y x y W) (hb : Below W.heap.size W W') : KpS w X Y x y W' :=
  ⟨h.x.below hb h.x.lt, h.y.below hb h.y.lt, h.below.trans (hb.mono h.below.size)⟩

set_option maxRecDepth 100000 in
set_option maxHeartbeats 8000000 in
theorem walk (w : World) (zc za zb : Int) :
    Calls Tryd.prog 4 #[.int .i64 zc, .int .i64 za, .int .i64 zb] w fun e w' => e = .returned (.bool true) ∧ Below w.heap.size w w' := by
  obtain ⟨xc, hxc, bxc⟩ := u64_nat zc
  obtain ⟨xa, hxa, bxa⟩ := u64_nat za
  obtain ⟨xb, hxb, bxb⟩ := u64_nat zb
  obtain ⟨c, hc⟩ : ∃ c, xc % 16 = c := ⟨_, rfl⟩
  obtain ⟨a, ha⟩ : ∃ a, xa % 4611686018427387904 = a := ⟨_, rfl⟩
  obtain ⟨b, hb⟩ : ∃ b, xb % 4611686018427387904 = b := ⟨_, rfl⟩
  have c16 : c < 16 := by omega
  have a62 : a < 4611686018427387904 := by omega
  have b62 : b < 4611686018427387904 := by omega
  have rc1 : (xc : Int).tmod 16 = (c : Int) := by rw [Int.tmod_eq_emod_of_nonneg (by omega)]; omega
  have ra1 : (xa : Int).tmod 4611686018427387904 = (a : Int) := by rw [Int.tmod_eq_emod_of_nonneg (by omega)]; omega
  have rb1 : (xb : Int).tmod 4611686018427387904 = (b : Int) := by rw [Int.tmod_eq_emod_of_nonneg (by omega)]; omega
  have rc2 : IntKind.u64.wrap (c : Int) = (c : Int) := IntWalk.u64_in _ (by omega)
  have ra2 : IntKind.u64.wrap (a : Int) = (a : Int) := IntWalk.u64_in _ (by omega)
  have rb2 : IntKind.u64.wrap (b : Int) = (b : Int) := IntWalk.u64_in _ (by omega)
  have rc3 : IntKind.i64.wrap (c : Int) = (c : Int) := IntWalk.i64_in _ (by omega)
  have ra3 : IntKind.i64.wrap (a : Int) = (a : Int) := IntWalk.i64_in _ (by omega)
  have rb3 : IntKind.i64.wrap (b : Int) = (b : Int) := IntWalk.i64_in _ (by omega)
  obtain ⟨cc, hcc⟩ : ∃ cc, 1 + c = cc := ⟨_, rfl⟩
  obtain ⟨aa, haa⟩ : ∃ aa, 1 + a = aa := ⟨_, rfl⟩
  obtain ⟨bb, hbb⟩ : ∃ bb, 1 + b = bb := ⟨_, rfl⟩
  have rc4 : IntKind.i64.wrap (1 + (c : Int)) = (cc : Int) := by rw [IntWalk.i64_in _ (by omega)]; omega
  have ra4 : IntKind.i64.wrap (1 + (a : Int)) = (aa : Int) := by rw [IntWalk.i64_in _ (by omega)]; omega
  have rb4 : IntKind.i64.wrap (1 + (b : Int)) = (bb : Int) := by rw [IntWalk.i64_in _ (by omega)]; omega
  have hcc1 : 1 ≤ cc ∧ cc ≤ 16 := by omega
  have haa1 : 1 ≤ aa ∧ aa ≤ 4611686018427387904 := by omega
  have hbb1 : 1 ≤ bb ∧ bb ≤ 4611686018427387904 := by omega
  have cx := fun W => nonce_yes W cc aa hcc1.1 hcc1.2 haa1.1 haa1.2
  have cy := fun W => nonce_yes W cc bb hcc1.1 hcc1.2 hbb1.1 hbb1.2
  have hls := less_nonce cc aa bb haa1.2 hbb1.2
  have x3 := nonce3 cc aa hcc1.2
  have y3 := nonce3 cc bb hcc1.2
  have lX := nonceB_len cc aa
  have lY := nonceB_len cc bb
  have rc5 : IntKind.u8.wrap (cc : Int) = (cc : Int) := by simp [IntKind.wrap, IntKind.signed, IntKind.bits]; omega
  obtain ⟨q, hq⟩ : ∃ q, decide (aa < bb) = q := ⟨_, rfl⟩
  have hq2 : decide ((aa : Int) < (bb : Int)) = q := by rw [← hq]; simp
  rw [hq] at hls
  have hh := hides_any
  clear hc ha hb hcc haa hbb bxc bxa bxb c16 a62 b62 haa1 hbb1 hcc1
  generalize nonceB cc aa = X at *
  generalize nonceB cc bb = Y at *
  have LX := hid_ lX
  have LY := hid_ lY
  have IX := hid_ (i12 X lX)
  have IY := hid_ (i12 Y lY)
  have QX := hid_ (show (rowOf (zbytes 12)).size = (rowOf X).size by rw [rowOf_size, rowOf_size, lX, zbytes_len])
  have QY := hid_ (show (rowOf (zbytes 12)).size = (rowOf Y).size by rw [rowOf_size, rowOf_size, lY, zbytes_len])
  have hz := z12
  have hall := non_all
  have HLS := hid_ hls
  have HQ2 := hid_ hq2
  have HQ := hid_ hq
  clear hls hq hq2 lX lY
  go_enter Tryd.func4, Tryd.ntmps4
  go_upto_region 5 with (first
    | (go_at_call 14; ((with_reducible refine (cx _).mono ?_); rintro e w1 ⟨rfl, hb⟩; have B1 := hid_ hb; clear hb cx))
    | (refine wpList_put_row rfl 23 _ _ rfl w1.heap.size (rowOf X) rfl rfl 23 (rowOf (zbytes 12)) (Bk.new w1 _ _) IX.out QX.out (bytes_one _) ?_; intro w2 k2 g2 s2; have K2 := hid_ k2; have B2 := hid_ ((B1.out.alloc B1.out.size (.cells (rowOf (zbytes 12)) 23)).grown g2 (by have := B1.out.size; simp; omega) (fun k hk => by injection hk with hk; have := B1.out.size; omega)); clear k2 g2 s2)
    | (go_at_call 14; ((with_reducible refine (cy _).mono ?_); rintro e w3 ⟨rfl, hb⟩; have K3 := hid_ (K2.out.below hb K2.out.lt); have B3 := hid_ (B2.out.trans (hb.mono B2.out.size)); clear hb))
    | (refine wpList_put_row rfl 23 _ _ rfl w3.heap.size (rowOf Y) rfl rfl 23 (rowOf (zbytes 12)) (Bk.new w3 _ _) IY.out QY.out (bytes_one _) ?_; intro w4 k4 g4 s4; have S4 : Hid (KpS w X Y w1.heap.size w3.heap.size w4) := hid_ ⟨(K3.out.alloc _).grown g4 (fun e => by injection e with e; have := K3.out.lt; omega), k4, (B3.out.alloc B3.out.size _).grown g4 (by have := B3.out.size; simp; omega) (fun k hk => by injection hk with hk; have := B3.out.size; omega)⟩; clear k4 g4 s4))
  generalize w1.heap.size = x at *
  generalize w3.heap.size = y at *
  clear B1 K2 B2 K3 B3 cy
  have P1 : Hid (∀ W, KpS w X Y x y W → Calls Tryd.prog 17 #[] W fun e w' => e = .returned (.bool true) ∧ KpS w X Y x y w') := hid_ (fun W h => (hh W).mono fun e w' hh => ⟨hh.1, h.keep hh.2⟩)
  have V1 : Hid (∀ W, KpS w X Y x y W → (convert 29 9 (.slice (some ⟨x, 0, none⟩) 12 12)).run Tryd.prog W = .ok (.string (strOf X)) W) := hid_ (fun W h => conv_strn (h.x.rd h.x.lt) 12 12 LX.out)
  have V2 : Hid (∀ W, KpS w X Y x y W → (convert 29 9 (.slice (some ⟨y, 0, none⟩) 12 12)).run Tryd.prog W = .ok (.string (strOf Y)) W) := hid_ (fun W h => conv_strn (h.y.rd h.y.lt) 12 12 LY.out)
  have C1 : Hid (∀ W, KpS w X Y x y W → W.cell? ⟨x, 3, none⟩ = some (.int .u8 (cc : Int))) := hid_ (fun W h => by rw [h.x.cell, rowOf_at X 3 (by rw [LX.out]; omega), x3])
  have C2 : Hid (∀ W, KpS w X Y x y W → W.cell? ⟨y, 3, none⟩ = some (.int .u8 (cc : Int))) := hid_ (fun W h => by rw [h.y.cell, rowOf_at Y 3 (by rw [LY.out]; omega), y3])
  clear x3 y3 hh
  refine region_quiet_in (C := fun W => KpS w X Y x y W) (by kernel_rfl) (by kernel_rfl) (show KpS w X Y x y { w4 with drawn := w4.drawn + 1 } from ⟨S4.out.x.drew, S4.out.y.drew, S4.out.below.drew⟩) ?_
  repeat (first | go_big_quiet_skip | (go_big_quiet_want; (first
    | (refine BigFrame.quiet_move _ rfl ?_; go_simp)
    | (refine BigFrame.quiet_assign _ rfl ?_; go_simp)
    | (refine quiet_call (.bool true) 17 #[] ?_ P1.out ?_; (focus (intro W; go_simp; done)); go_simp)
    | (refine quiet_run (.slice (some ⟨x, 0, none⟩) 12 12) ?_ ?_; (focus (intro W hW; go_simp; done)); go_simp)
    | (refine quiet_run (.slice (some ⟨y, 0, none⟩) 12 12) ?_ ?_; (focus (intro W hW; go_simp; done)); go_simp)
    | (refine quiet_run (.string (strOf X)) ?_ ?_; (focus (intro W hW; have h := V1.out W hW; go_simp; done)); go_simp)
    | (refine quiet_run (.string (strOf Y)) ?_ ?_; (focus (intro W hW; have h := V2.out W hW; go_simp; done)); go_simp)
    | (refine quiet_run (.pointer (some ⟨x, 3, none⟩)) ?_ ?_; (focus (intro W hW; go_simp; done)); go_simp)
    | (refine quiet_run (.pointer (some ⟨y, 3, none⟩)) ?_ ?_; (focus (intro W hW; go_simp; done)); go_simp)
    | (refine quiet_run (.int .u8 (cc : Int)) ?_ ?_; (focus (intro W hW; have h := C1.out W hW; have h2 := C2.out W hW; go_simp; done)); go_simp)
    | (refine quiet_run (.bool q) ?_ ?_; (focus (intro W hW; have h := HLS.out; go_simp; done)); go_simp)
    | (refine quiet_run (.bool q) ?_ ?_; (focus (intro W hW; have h := HQ2.out; have h2 := HQ.out; go_simp; done)); go_simp)
    | (refine quiet_run (.bool true) ?_ ?_; (focus (intro W hW; go_simp; done)); go_simp)); go_big_quiet_on))
  refine wpQuiet_nil ?_
  intro w5 hw5
  have X5 := hid_ hw5.below
  clear hw5
  go_wp2
  go_ret
  exact ⟨rfl, X5.out⟩

theorem laid_met3 (os : Os) : laidMet Tryd.prog [("casket/sha2.roundWords", Rows.laid_casket_sha2_roundWords)] ((laidWorld os).forCall (fun _ _ => 0) ⟨#[], #[.int .i64 0, .int .i64 0, .int .i64 0], []⟩).memory :=
  laidMet_of_run' 8 (by kernel_rfl) (by kernel_rfl)

/-- What the walk gives, for every argument and every world in which the constants lie. -/
theorem contract (H : Type) (enc : TypeId × Value → H) (W : World) (base : Nat) (args : Array Value) (ds gs : List (DataW H)) (before : List MemPlace)
    (hval : ∀ (j : Nat) t v, Tryd.f4.params[j]? = some t → args[j]? = some v → Value.okWide Tryd.prog W .any base t v)
    (hW : DataW.Whole enc Tryd.prog Tryd.f4.params.toList Rows.keysPartsSpec.vars false W args.toList ds gs before) (hL : laidMetH Tryd.prog Rows.keysPartsRow.laid W) :
    Calls Tryd.prog 4 args W fun e W' => ∃ v, e = .returned v ∧ Rows.keysPartsSpec.post enc Tryd.prog Tryd.f4 false true false false W args v W' := by
  obtain ⟨ht, hg1⟩ := tab_of hL
  have hW' := hW
  obtain ⟨p, q, hA0, hV, rfl, hfz, hnd⟩ := hW
  have hA : DataW.TrodAll enc Tryd.prog W 0 (fun _ => true) true Tryd.f4.params.toList args.toList ds p := hA0
  rw [Tryd.params4] at hA hval
  obtain ⟨v0, vs0, d0, ds0, p0, q0, hargs, rfl, rfl, h0, r0⟩ := trodAll_cons hA
  obtain ⟨v1, vs1, d1, ds1, p1, q1, rfl, rfl, rfl, h1, r1⟩ := trodAll_cons r0
  obtain ⟨v2, vs2, d2, ds2, p2, q2, rfl, rfl, rfl, h2, r2⟩ := trodAll_cons r1
  obtain ⟨rfl, rfl, rfl⟩ := trodAll_nil r2
  obtain rfl : args = #[v0, v1, v2] := by cases args; simp_all
  obtain ⟨rfl, rfl⟩ := trodVars_none hV
  obtain ⟨a0, rfl, rfl, rfl, w0⟩ := open_int Tryd.underlying3 (hval 0 3 v0 rfl rfl) h0
  obtain ⟨a1, rfl, rfl, rfl, w1⟩ := open_int Tryd.underlying3 (hval 1 3 v1 rfl rfl) h1
  obtain ⟨a2, rfl, rfl, rfl, w2⟩ := open_int Tryd.underlying3 (hval 2 3 v2 rfl rfl) h2
  refine (walk W a0 a1 a2).mono fun e W' ⟨he, hg⟩ => ⟨_, he, ?_⟩
  exact law_post laidOut_ (of_decide_eq_true (by kernel_rfl)) rfl rfl Tryd.underlying4 rfl hW' hg

theorem reads (os : Os) {H : Type} (enc : TypeId × Value → H) : ∃ places, DataW.whole enc Tryd.prog ((laidWorld os).forCall (fun _ _ => 0) ⟨#[], #[.int .i64 0, .int .i64 0, .int .i64 0], []⟩).memory Tryd.f4.params.toList Rows.keysPartsSpec.vars false #[Value.int .i64 0, Value.int .i64 0, Value.int .i64 0].toList 8 = some ([.lit (.int .i64 0), .lit (.int .i64 0), .lit (.int .i64 0)], [], places) :=
  ⟨[], by kernel_rfl⟩

set_option maxRecDepth 100000 in
theorem lifted (os : Os) (started : os.Started) (H : Type) (enc : TypeId × Value → H) (F : Stop.Interp) :
    ReturnsInHanded {} Tryd.checked os 4 .any ((OpenSpec.ofChange Rows.keysPartsSpec).preRow enc Tryd.prog Tryd.f4 Rows.keysPartsRow.domain false Rows.keysPartsRow.laid) (((OpenSpec.ofChange Rows.keysPartsSpec).at F).post enc Tryd.prog Tryd.f4 false true false false) := by
  obtain ⟨places, hx⟩ := reads os enc
  refine returnsInHanded_of_row (C := Tryd.checked) (s := OpenSpec.ofChange Rows.keysPartsSpec) own_ started (by kernel_rfl) Tryd.func4
    (witness_row_at (enc := enc) (C := Tryd.checked) false (laidWorld os) #[.int .i64 0, .int .i64 0, .int .i64 0] rfl (by kernel_rfl) (by kernel_rfl) (by kernel_rfl)
      (OpenSpec.preRow_of_cond 8 hx (by kernel_rfl) (fun k hk => by cases hk) (by kernel_rfl) (laid_met3 os))) ?_
  intro W base args ds gs before hval hW _ _ _ hL _ _
  exact contract H enc W base args ds gs before hval hW hL

theorem said : Rows.KeysPartsSaid :=
  OpenClaim.holds_of_cond 4 Tryd.f4 rfl rfl rfl rfl rfl rfl rfl ⟨rfl, rfl, rfl, rfl, rfl⟩ rfl rfl rfl rfl rfl (by kernel_rfl) Tryd.func4 (by kernel_rfl)
    (of_decide_eq_true (by kernel_rfl)) (by unfold Func.isWrapper; first | (rw [if_pos (by decide +kernel)]; kernel_rfl) | (rw [if_neg (by decide +kernel)]; exact ⟨rfl, rfl⟩))
    (fun os started H enc _ F => by rw [OpenClaim.pre_eq_preRow]; exact lifted os started H enc F)

/-- No parameter wants a stand-in; the program's own looks are off: what the card asks. -/
theorem plain (f : FuncId) (fn : Func) (hf : Tryd.pinned.checked.prog.funcNamed "casket/casketlaw11.KeysParts" = some f) (hfn : Tryd.pinned.checked.prog.funcs[f]? = some fn) :
    false = Tryd.pinned.checked.prog.looks [] ∧ ∀ (j : Nat) t, fn.params[j]? = some t → Tryd.pinned.checked.prog.wantsStandIn t = false := by
  obtain rfl : f = 4 := Option.some.inj ((show Tryd.prog.funcNamed "casket/casketlaw11.KeysParts" = some 4 by kernel_rfl).symm.trans hf) |>.symm
  obtain rfl : fn = Tryd.f4 := (Option.some.inj (Tryd.func4.symm.trans hfn)).symm
  refine ⟨by kernel_rfl, fun j t ht => ?_⟩
  rw [Tryd.params4] at ht
  have hm := Array.mem_of_getElem? ht
  simp only [List.mem_toArray, List.mem_cons, List.not_mem_nil, or_false] at hm
  rcases hm with rfl | rfl | rfl
  · exact (show Tryd.prog.wantsStandIn 3 = false by kernel_rfl)
  · exact (show Tryd.prog.wantsStandIn 3 = false by kernel_rfl)
  · exact (show Tryd.prog.wantsStandIn 3 = false by kernel_rfl)

/-- The card. -/
theorem proved : Rows.KeysPartsCardSaid :=
  Claim7.holds_tied_plain_at .later [] _ _ _ _ said (fun _ h => by cases h) (by kernel_rfl) (fun _ h => by cases h) keysParts_row_tie rfl ⟨rfl, rfl⟩ (by kernel_rfl) rfl plain (by kernel_rfl)
#print axioms proved
end Go.Proofs.YtjfidfcfhdkciabDoor.keysParts
