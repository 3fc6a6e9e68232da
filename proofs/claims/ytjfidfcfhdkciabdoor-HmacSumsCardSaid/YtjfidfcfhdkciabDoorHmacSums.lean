/-
  Proved: for all keys and rows of parts HmacSums answers true: of all keys and parts the digest is told; what is handed in stays. No condition.
-/
import Derived.Test.YtjfidfcfhdkciabDoorHh
namespace Go.Proofs.YtjfidfcfhdkciabDoor.hmacSums
open Go.ChangeShapes Go.WideShapes Go.ChangeAt Go.RowKit
set_option linter.unusedVariables false
set_option linter.unusedSimpArgs false

theorem hid_ {p : Prop} (h : p) : Hid p := h
/-- The worlds of the last region. -/
structure HsC (w : World) (D : Nat) (dg : List UInt8) (A : Option Addr) (L : List (List UInt8)) (A0 : Option Addr) (t : List UInt8) (W : World) : Prop where
  d : Bk W D 34 (rowOf dg)
  parts : Parts W W.heap.size A L
  key : Rd W W.heap.size A0 t
  tab : Tab W
  low : 0 < W.heap.size
  below : Below w.heap.size w W
theorem HsC.keep {w : World} {D : Nat} {dg : List UInt8} {A : Option Addr} {L : List (List UInt8)} {A0 : Option Addr} {t : List UInt8} {W W' : World} (h : HsC w D dg A L A0 t W) (hb : Below W.heap.size W W') : HsC w D dg A L A0 t W' :=
  ⟨h.d.below hb h.d.lt, (h.parts.below hb (Nat.le_refl _)).more hb.size, (h.key.below hb).more hb.size, fun t ht => (hb.cell (p := ⟨_, t, none⟩) h.low).trans (h.tab t ht), Nat.lt_of_lt_of_le h.low hb.size, h.below.trans (hb.mono h.below.size)⟩

set_option maxRecDepth 100000 in
set_option maxHeartbeats 8000000 in
theorem walk (w : World) (A9 : Option Addr) (l : List UInt8) (c9 : Nat) (hr : Rd w w.heap.size A9 l) (hlc : l.length ≤ c9) (hcm : c9 ≤ 9223372036854775807)
    (A : Option Addr) (n c : Nat) (ls : List (List UInt8)) (hn : ls.length = n) (hp : Parts w w.heap.size A ls) (hnm : n ≤ maxLen) (ht : Tab w) (hg1 : 0 < w.heap.size) :
    Calls Tryd.prog 6 #[.slice A9 l.length c9, .slice A n c] w fun e w' => e = .returned (.bool true) ∧ Below w.heap.size w w' := by
  obtain ⟨m, hm⟩ : ∃ m, m = min l.length 200 := ⟨_, rfl⟩
  have hm1 := fun W => run_min2 l.length 200 m hm W
  rw [show ((200 : Nat) : Int) = 200 from rfl] at hm1
  have hs1 := fun W => slice_to A9 l.length c9 (m : Int) m rfl (by omega) W
  have HM0 : (l.take 200).length = m := by rw [List.length_take, hm, Nat.min_comm]
  have hrt := (hr.take 200).alloc (Nat.le_refl _) (.cells (rowOf []) 5)
  have m200 : m ≤ 200 := by omega
  generalize l.take 200 = t at *
  have HM := hid_ HM0
  have hown := Own8.lit w w.heap.size [] (Nat.le_refl _) (Nat.zero_le _)
  have hwal := hid_ ((Below.refl w.heap.size w).alloc (Nat.le_refl _) (.cells (rowOf []) 5))
  have hle0 : ([] : List UInt8).length + m ≤ 140737488355328 := by simp; omega
  have hsz0 : w.heap.size ≤ (w.alloc (.cells (rowOf []) 5)).heap.size := by simp
  have HP := hid_ hp
  have HT := hid_ ht
  have hL8 : ((ls.take 6).map (·.take 200)).length ≤ 6 := by rw [List.length_map, List.length_take]; omega
  have hLf : ∀ q : List (List UInt8), q.length ≤ 6 → ((q.map (·.take 200)).flatten).length ≤ 200 * q.length := fun q _ => by
    induction q with
    | nil => simp
    | cons x q ih =>
      rw [List.map_cons, List.flatten_cons, List.length_append, List.length_cons]
      have h1 := ih (by simp at *; omega)
      have h2 : (x.take 200).length ≤ 200 := by rw [List.length_take]; omega
      omega
  have hLt := hLf (ls.take 6) (by rw [List.length_take]; omega)
  have hLt2 : ((ls.take 6).map (·.take 200)).flatten.length ≤ 1200 := by
    have : (ls.take 6).length ≤ 6 := by rw [List.length_take]; omega
    omega
  have cf := fun (W : World) (h : Parts W W.heap.size A ls) => (show Calls Tryd.prog 22 #[.slice A n c, .int .i64 6, .int .i64 200] W (FewPost W ((ls.take 6).map (·.take 200))) from few_any A n c 6 200 ls W hn h (by simp only [maxLen] at hnm; omega) (by omega) (by omega))
  generalize (ls.take 6).map (·.take 200) = L at *
  have HL8 := hid_ hL8
  have HLT := hid_ hLt2
  have hz := z32
  obtain ⟨dg, hdg⟩ : ∃ dg, hmacB t L.flatten = dg := ⟨_, rfl⟩
  have HDG := hid_ hdg
  have DL := hid_ (show dg.length = 32 by rw [← hdg]; exact hmacB_len _ _)
  have I := hid_ (show (Tryd.prog.info? 34).map (·.size) = some (rowOf dg).size by rw [rowOf_size, DL.out]; exact i32_)
  have Q := hid_ (show (rowOf (zbytes 32)).size = (rowOf dg).size by rw [rowOf_size, rowOf_size, DL.out, zbytes_len])
  clear hr hm HM0 hLf hLt hp hn ht hL8 hLt2 hdg
  go_enter Tryd.func6, Tryd.ntmps6
  go_upto_region 3 with (first
    | (at_builtin; refine wpList_app rfl (.tmp 9) (.tmp 14) rfl hown rfl m c9 rfl hrt HM.out hle0 hsz0 ?_; (intro A0 c0 w1 k1 k2 k3; have O1 := hid_ (show Own8 w1 w.heap.size (.slice A0 m c0) t by simpa using k1); have X1 := hid_ (hwal.out.grown k2 hsz0 (fun k hk => by simp [Value.ownBlock] at hk; omega)); clear k1 k2 k3 hrt hown))
    | (go_at_call 22; have cp := cf w1 ((HP.out.below X1.out (Nat.le_refl _)).more X1.out.size); ((with_reducible refine cp.mono ?_); clear cp; rintro e w2 ⟨A1, n1, c1, rfl, hl1, hp1, hb1⟩; have HP2 := hid_ hp1; have HL2 := hid_ hl1; have O2 := hid_ (O1.out.below hb1 (Nat.le_refl _)); have X2 := hid_ (X1.out.trans (hb1.mono X1.out.size)); clear hb1 hp1 hl1)))
  have hn6 : n1 ≤ 6 := by have := HL8.out; have := HL2.out; omega
  obtain ⟨hc0, hc1⟩ := O2.out.cap
  go_cut [6, 7] (fun s6 s7 wx => s6 = .string (strOf L.flatten) ∧ s7 = .string (strOf t) ∧ Hid (Below w2.heap.size w2 wx))
  case first =>
    have P1 : Hid (∀ W : World, Below w2.heap.size w2 W → Calls Tryd.prog 23 #[.slice A1 n1 c1] W fun e w' => e = .returned (.string (strOf L.flatten)) ∧ Below w2.heap.size w2 w') := hid_ (fun W h => (all_any A1 n1 c1 L W HL2.out ((HP2.out.below h (Nat.le_refl _)).more h.size) (by omega) (by have := HLT.out; omega)).mono fun e w' hh => ⟨hh.1, h.trans (hh.2.mono h.size)⟩)
    have V1 : Hid (∀ W : World, Below w2.heap.size w2 W → (convert 29 9 (.slice A0 m c0)).run Tryd.prog W = .ok (.string (strOf t)) W) := hid_ (fun W h => conv_strn (O2.out.rd.1.below h) m c0 HM.out)
    refine region_quiet_in (C := fun W => Below w2.heap.size w2 W) (by kernel_rfl) (by kernel_rfl) ((Below.refl _ _).drew) ?_
    repeat (first | go_big_quiet_skip | (go_big_quiet_want; (first
      | (refine BigFrame.quiet_move _ rfl ?_; go_simp)
      | (refine BigFrame.quiet_assign _ rfl ?_; go_simp)
      | (refine quiet_run (.string (strOf t)) ?_ ?_; (focus (intro W hW; have h := V1.out W hW; go_simp; done)); go_simp)
      | (refine quiet_call (.string (strOf L.flatten)) 23 #[.slice A1 n1 c1] ?_ P1.out ?_; (focus (intro W; go_simp; done)); go_simp)); go_big_quiet_on))
    refine wpQuiet_nil ?_
    intro w3 hw3
    have X3 : Hid (Below w2.heap.size w2 w3) := hid_ hw3
    clear hw3
    go_wp2
    go_meet
    exact ⟨rfl, rfl, X3⟩
  case rest =>
    obtain ⟨rfl, rfl, X3⟩ := hcut
    rename_i K hK
    refine hK _ _ ?_
    clear hK
    have X3w := hid_ (X2.out.trans (X3.out.mono X2.out.size))
    have O3 := hid_ (O2.out.below X3.out (Nat.le_refl _))
    have HP3 := hid_ ((HP2.out.below X3.out (Nat.le_refl _)).more X3.out.size)
    have ch := hmac_any wc A0 m c0 t HM.out (by omega) hc0 hc1 O3.out.rd.1 A1 n1 c1 L HL2.out HP3.out (by omega) (by have := HLT.out; omega) (fun t h => (X3w.out.cell (p := ⟨_, t, none⟩) hg1).trans (HT.out t h)) (Nat.lt_of_lt_of_le hg1 X3w.out.size)
    rw [HDG.out] at ch
    go_upto_region 5 with (first
      | (go_at_call 24; ((with_reducible refine ch.mono ?_); rintro e w4 ⟨rfl, hb⟩; have X4 := hid_ (X3w.out.trans (hb.mono X3w.out.size)); have O4 := hid_ (O3.out.below hb (Nat.le_refl _)); have HP4 := hid_ ((HP3.out.below hb (Nat.le_refl _)).more hb.size); clear hb ch))
      | (refine wpList_put_row rfl 34 _ _ rfl w4.heap.size (rowOf dg) rfl rfl 34 (rowOf (zbytes 32)) (Bk.new w4 _ _) I.out Q.out (bytes_one _) ?_; intro w5 k5 g5 s5; have BX : Below w4.heap.size w4 w5 := (((Below.refl w4.heap.size w4).alloc (Nat.le_refl _) (.cells (rowOf (zbytes 32)) 34)).grown g5 (by simp) (fun k hk => by injection hk with hk; omega)); have S5 : Hid (HsC w w4.heap.size dg A1 L A0 t w5) := hid_ ⟨k5, (HP4.out.below BX (Nat.le_refl _)).more BX.size, (O4.out.rd.1.below BX).more BX.size, fun t h => ((X4.out.trans (BX.mono X4.out.size)).cell (p := ⟨_, t, none⟩) hg1).trans (HT.out t h), Nat.lt_of_lt_of_le hg1 (X4.out.trans (BX.mono X4.out.size)).size, X4.out.trans (BX.mono X4.out.size)⟩; clear k5 g5 s5 BX))
    rw [put_none]
    generalize w4.heap.size = D at *
    have P1 : Hid (∀ W, HsC w D dg A1 L A0 t W → Calls Tryd.prog 25 #[] W fun e w' => e = .returned (.bool true) ∧ HsC w D dg A1 L A0 t w') := hid_ (fun W h => (keyed_any W h.tab h.low).mono fun e w' hh => ⟨hh.1, h.keep hh.2⟩)
    have P2 : Hid (∀ W, HsC w D dg A1 L A0 t W → Calls Tryd.prog 26 #[.string (strOf t), .string (strOf L.flatten)] W fun e w' => e = .returned (.string (strOf dg)) ∧ HsC w D dg A1 L A0 t w') := hid_ (fun W h => (refHmac_any W t L.flatten (by have := HM.out; omega) (by have := HLT.out; omega)).mono fun e w' hh => ⟨by rw [hh.1, HDG.out], h.keep hh.2⟩)
    have P3 : Hid (∀ W, HsC w D dg A1 L A0 t W → Calls Tryd.prog 23 #[.slice A1 n1 c1] W fun e w' => e = .returned (.string (strOf L.flatten)) ∧ HsC w D dg A1 L A0 t w') := hid_ (fun W h => (all_any A1 n1 c1 L W HL2.out h.parts (by omega) (by have := HLT.out; omega)).mono fun e w' hh => ⟨hh.1, h.keep hh.2⟩)
    have V1 : Hid (∀ W, HsC w D dg A1 L A0 t W → (convert 29 9 (.slice (some ⟨D, 0, none⟩) 32 32)).run Tryd.prog W = .ok (.string (strOf dg)) W) := hid_ (fun W h => conv_strn (h.d.rd h.d.lt) 32 32 DL.out)
    have V2 : Hid (∀ W, HsC w D dg A1 L A0 t W → (convert 29 9 (.slice A0 m c0)).run Tryd.prog W = .ok (.string (strOf t)) W) := hid_ (fun W h => conv_strn h.key m c0 HM.out)
    have hall := dig_all
    have q1 := strOf_eq dg dg rfl
    have q2 := strOf_eq t t rfl
    have q3 := strOf_eq L.flatten L.flatten rfl
    refine region_quiet_in (C := fun W => HsC w D dg A1 L A0 t W) (by kernel_rfl) (by kernel_rfl) (show HsC w D dg A1 L A0 t { w5 with drawn := w5.drawn + 1 } from ⟨S5.out.d.drew, S5.out.parts, S5.out.key, S5.out.tab, S5.out.low, S5.out.below.drew⟩) ?_
    repeat (first | go_big_quiet_skip | (go_big_quiet_want; (first
      | (refine BigFrame.quiet_move _ rfl ?_; go_simp)
      | (refine BigFrame.quiet_assign _ rfl ?_; go_simp)
      | (refine quiet_run (.slice (some ⟨D, 0, none⟩) 32 32) ?_ ?_; (focus (intro W hW; go_simp; done)); go_simp)
      | (refine quiet_run (.string (strOf dg)) ?_ ?_; (focus (intro W hW; have h := V1.out W hW; go_simp; done)); go_simp)
      | (refine quiet_run (.string (strOf t)) ?_ ?_; (focus (intro W hW; have h := V2.out W hW; go_simp; done)); go_simp)
      | (refine quiet_call (.bool true) 25 #[] ?_ P1.out ?_; (focus (intro W; go_simp; done)); go_simp)
      | (refine quiet_call (.string (strOf dg)) 26 #[.string (strOf t), .string (strOf L.flatten)] ?_ P2.out ?_; (focus (intro W; go_simp; done)); go_simp)
      | (refine quiet_call (.string (strOf L.flatten)) 23 #[.slice A1 n1 c1] ?_ P3.out ?_; (focus (intro W; go_simp; done)); go_simp)
      | (refine quiet_run (.bool true) ?_ ?_; (focus (intro W hW; go_simp; done)); go_simp)); go_big_quiet_on))
    refine wpQuiet_nil ?_
    intro w6 hw6
    have X6 := hid_ hw6.below
    clear hw6
    go_wp2
    go_ret
    exact ⟨rfl, X6.out⟩

/-- What the walk gives, for every argument and every world in which the constants lie. -/
theorem contract (H : Type) (enc : TypeId × Value → H) (W : World) (base : Nat) (args : Array Value) (ds gs : List (DataW H)) (before : List MemPlace)
    (hval : ∀ (j : Nat) t v, Tryd.f6.params[j]? = some t → args[j]? = some v → Value.okWide Tryd.prog W .any base t v)
    (hW : DataW.Whole enc Tryd.prog Tryd.f6.params.toList Rows.hmacSumsSpec.vars false W args.toList ds gs before) (hL : laidMetH Tryd.prog Rows.hmacSumsRow.laid W) :
    Calls Tryd.prog 6 args W fun e W' => ∃ v, e = .returned v ∧ Rows.hmacSumsSpec.post enc Tryd.prog Tryd.f6 false true false false W args v W' := by
  obtain ⟨ht, hg1⟩ := tab_of hL
  have hW' := hW
  obtain ⟨p, q, hA0, hV, rfl, hfz, hnd⟩ := hW
  have hA : DataW.TrodAll enc Tryd.prog W 0 (fun _ => true) true Tryd.f6.params.toList args.toList ds p := hA0
  rw [Tryd.params6] at hA hval
  obtain ⟨v0, vs0, d0, ds0, p0, q0, hargs, rfl, rfl, h0, r0⟩ := trodAll_cons hA
  obtain ⟨v1, vs1, d1, ds1, p1, q1, rfl, rfl, rfl, h1, r1⟩ := trodAll_cons r0
  obtain ⟨rfl, rfl, rfl⟩ := trodAll_nil r1
  obtain rfl : args = #[v0, v1] := by cases args; simp_all
  obtain ⟨rfl, rfl⟩ := trodVars_none hV
  obtain ⟨A8, l8, c8, rfl, hr8, hlc8, hcm8⟩ := open_bytes Tryd.underlying29 Tryd.underlying5 (by kernel_rfl) (hval 0 29 v0 rfl rfl) h0
  obtain ⟨A0, n0, c0, ls, rfl, hl0, hp0, hm0⟩ := open_parts Tryd.underlying38 Tryd.underlying29 Tryd.underlying5 (by kernel_rfl) (by kernel_rfl) (hval 1 38 v1 rfl rfl) h1
  refine (walk W A8 l8 c8 hr8 hlc8 (by unfold maxLen at hcm8; omega) A0 n0 c0 ls hl0 hp0 hm0 ht hg1).mono fun e W' ⟨he, hg⟩ => ⟨_, he, ?_⟩
  exact law_post laidOut_ (of_decide_eq_true (by kernel_rfl)) rfl rfl Tryd.underlying4 rfl hW' hg

theorem reads (os : Os) {H : Type} (enc : TypeId × Value → H) : ∃ places, DataW.whole enc Tryd.prog ((laidWorld os).forCall (fun _ _ => 0) ⟨#[], #[.slice none 0 0, .slice none 0 0], []⟩).memory Tryd.f6.params.toList Rows.hmacSumsSpec.vars false #[Value.slice none 0 0, Value.slice none 0 0].toList 8 = some ([.nil, .nil], [], places) :=
  ⟨[], by kernel_rfl⟩

set_option maxRecDepth 100000 in
theorem lifted (os : Os) (started : os.Started) (H : Type) (enc : TypeId × Value → H) (F : Stop.Interp) :
    ReturnsInHanded {} Tryd.checked os 6 .any ((OpenSpec.ofChange Rows.hmacSumsSpec).preRow enc Tryd.prog Tryd.f6 Rows.hmacSumsRow.domain false Rows.hmacSumsRow.laid) (((OpenSpec.ofChange Rows.hmacSumsSpec).at F).post enc Tryd.prog Tryd.f6 false true false false) := by
  obtain ⟨places, hx⟩ := reads os enc
  refine returnsInHanded_of_row (C := Tryd.checked) (s := OpenSpec.ofChange Rows.hmacSumsSpec) own_ started (by kernel_rfl) Tryd.func6
    (witness_row_at (enc := enc) (C := Tryd.checked) false (laidWorld os) #[.slice none 0 0, .slice none 0 0] rfl (by kernel_rfl) (by kernel_rfl) (by kernel_rfl)
      (OpenSpec.preRow_of_cond 8 hx (by kernel_rfl) (fun k hk => by cases hk) (by kernel_rfl) (laid_met2 os))) ?_
  intro W base args ds gs before hval hW _ _ _ hL _ _
  exact contract H enc W base args ds gs before hval hW hL

theorem said : Rows.HmacSumsSaid :=
  OpenClaim.holds_of_cond 6 Tryd.f6 rfl rfl rfl rfl rfl rfl rfl ⟨rfl, rfl, rfl, rfl, rfl⟩ rfl rfl rfl rfl rfl (by kernel_rfl) Tryd.func6 (by kernel_rfl)
    (of_decide_eq_true (by kernel_rfl)) (by unfold Func.isWrapper; first | (rw [if_pos (by decide +kernel)]; kernel_rfl) | (rw [if_neg (by decide +kernel)]; exact ⟨rfl, rfl⟩))
    (fun os started H enc _ F => by rw [OpenClaim.pre_eq_preRow]; exact lifted os started H enc F)

/-- No parameter wants a stand-in; the program's own looks are off: what the card asks. -/
theorem plain (f : FuncId) (fn : Func) (hf : Tryd.pinned.checked.prog.funcNamed "casket/casketlaw03.HmacSums" = some f) (hfn : Tryd.pinned.checked.prog.funcs[f]? = some fn) :
    false = Tryd.pinned.checked.prog.looks [] ∧ ∀ (j : Nat) t, fn.params[j]? = some t → Tryd.pinned.checked.prog.wantsStandIn t = false := by
  obtain rfl : f = 6 := Option.some.inj ((show Tryd.prog.funcNamed "casket/casketlaw03.HmacSums" = some 6 by kernel_rfl).symm.trans hf) |>.symm
  obtain rfl : fn = Tryd.f6 := (Option.some.inj (Tryd.func6.symm.trans hfn)).symm
  refine ⟨by kernel_rfl, fun j t ht => ?_⟩
  rw [Tryd.params6] at ht
  have hm := Array.mem_of_getElem? ht
  simp only [List.mem_toArray, List.mem_cons, List.not_mem_nil, or_false] at hm
  rcases hm with rfl | rfl
  · exact (show Tryd.prog.wantsStandIn 29 = false by kernel_rfl)
  · exact (show Tryd.prog.wantsStandIn 38 = false by kernel_rfl)

/-- The card. -/
theorem proved : Rows.HmacSumsCardSaid :=
  Claim7.holds_tied_plain_at .later [] _ _ _ _ said (fun _ h => by cases h) (by kernel_rfl) (fun _ h => by cases h) hmacSums_row_tie rfl ⟨rfl, rfl⟩ (by kernel_rfl) rfl plain (by kernel_rfl)
#print axioms proved
end Go.Proofs.YtjfidfcfhdkciabDoor.hmacSums
