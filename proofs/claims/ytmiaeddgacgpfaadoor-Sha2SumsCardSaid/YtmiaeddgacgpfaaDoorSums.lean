/-
  Proved: for every row of parts Sha2Sums answers true: of all parts the digest is told; what is handed in stays. No condition.
-/
import Derived.Test.YtmiaeddgacgpfaaDoorR3
namespace Go.Proofs.YtmiaeddgacgpfaaDoor.sha2Sums
open Go.ChangeShapes Go.WideShapes Go.ChangeAt Go.RowKit
set_option linter.unusedVariables false

/-- The worlds of the last region. -/
def LastC (w : World) (B D : Nat) (dg : List UInt8) (A : Option Addr) (L : List (List UInt8)) (W : World) : Prop :=
  B ≤ W.heap.size ∧ D < B ∧ Bk W D 25 (rowOf dg) ∧ Parts W B A L ∧ Tab W ∧ 0 < B ∧ Below w.heap.size w W ∧ w.heap.size ≤ B
theorem LastC.below {w : World} {B D : Nat} {dg : List UInt8} {A : Option Addr} {L : List (List UInt8)} {W W' : World} (h : LastC w B D dg A L W) (hb : Below W.heap.size W W') : LastC w B D dg A L W' := by
  obtain ⟨h1, h2, h3, h4, h5, h6, h7, h8⟩ := h
  exact ⟨Nat.le_trans h1 hb.size, h2, h3.below hb h3.lt, h4.below hb h1, fun t ht => (hb.cell (p := ⟨_, t, none⟩) (Nat.lt_of_lt_of_le h6 h1)).trans (h5 t ht), h6, h7.trans (hb.mono h7.size), h8⟩

set_option maxRecDepth 100000 in
set_option maxHeartbeats 4000000 in
theorem walk (A : Option Addr) (n c : Nat) (ls : List (List UInt8)) (w : World) (hn : ls.length = n) (hp : Parts w w.heap.size A ls) (hnm : n ≤ maxLen) (ht : Tab w) (hg1 : 0 < w.heap.size) :
    Calls Tryd.prog 3 #[.slice A n c] w fun e w' => e = .returned (.bool true) ∧ Below w.heap.size w w' := by
  have cf : Calls Tryd.prog 12 #[.slice A n c, .int .i64 8, .int .i64 300] w (FewPost w ((ls.take 8).map (·.take 300))) := few_any A n c 8 300 ls w hn hp (by simp only [maxLen] at hnm; omega) (by omega) (by omega)
  have hL8 : ((ls.take 8).map (·.take 300)).length ≤ 8 := by rw [List.length_map, List.length_take]; omega
  have hLf : ∀ q : List (List UInt8), q.length ≤ 8 → ((q.map (·.take 300)).flatten).length ≤ 300 * q.length := fun q _ => by
    induction q with
    | nil => simp
    | cons x q ih =>
      rw [List.map_cons, List.flatten_cons, List.length_append, List.length_cons]
      have h1 := ih (by simp at *; omega)
      have h2 : (x.take 300).length ≤ 300 := by rw [List.length_take]; omega
      omega
  have hLt := hLf (ls.take 8) (by rw [List.length_take]; omega)
  have hLt2 : ((ls.take 8).map (·.take 300)).flatten.length ≤ 2400 := by
    have : (ls.take 8).length ≤ 8 := by rw [List.length_take]; omega
    omega
  generalize (ls.take 8).map (·.take 300) = L at *
  have HT := hid_ ht
  have HL8 := hid_ hL8
  have HLT := hid_ hLt2
  clear hLf hLt hp hn ht hL8 hLt2
  have hz := z32
  go_enter Tryd.func3, Tryd.ntmps3
  obtain ⟨dg, hdg⟩ : ∃ dg, Hid (sha L.flatten = dg) := ⟨_, rfl⟩
  have hdl : Hid (dg.length = 32) := by show _ = _; rw [← hdg.out]; exact sha_len _
  have e32 : (Tryd.prog.info? 25).map (·.size) = some (rowOf dg).size := by rw [rowOf_size, hdl.out]; exact i32_
  have q32 : (rowOf (zbytes 32)).size = (rowOf dg).size := by rw [rowOf_size, rowOf_size, hdl.out, zbytes_len]
  have E32 := hid_ e32
  have Q32 := hid_ q32
  clear e32 q32
  go_upto_region 4 with (first
    | (go_at_call 12; ((with_reducible refine cf.mono ?_); rintro e w1 ⟨A1, n1, c1, rfl, hl1, hp1, hb1⟩);
       have HP1 := hid_ hp1; have HB1 := hid_ hb1; have HL1 := hid_ hl1; clear hp1 hb1 hl1;
       have ca := all_any A1 n1 c1 L w1 HL1.out HP1.out (by have := HL8.out; have := HL1.out; omega) (by have := HLT.out; omega))
    | (go_at_call 13; ((with_reducible refine ca.mono ?_); rintro e w2 ⟨rfl, hb2⟩);
       have HB2 := hid_ hb2; clear hb2;
       have HP2 := hid_ ((HP1.out.below HB2.out (Nat.le_refl _)).more HB2.out.size);
       have HX2 := hid_ (HB1.out.trans (HB2.out.mono HB1.out.size));
       have cs := sum_any A1 n1 c1 L w2 HL1.out HP2.out (by have := HL8.out; have := HL1.out; omega) (by have := HLT.out; omega) (fun t h => (HX2.out.cell (p := ⟨_, t, none⟩) hg1).trans (HT.out t h)) (Nat.lt_of_lt_of_le hg1 HX2.out.size);
       rw [hdg.out] at cs)
    | (go_at_call 14; ((with_reducible refine cs.mono ?_); rintro e w3 ⟨rfl, hb3⟩);
       have HB3 := hid_ hb3; clear hb3)
    | (refine wpList_put_row rfl 25 _ _ rfl w3.heap.size (rowOf dg) rfl rfl 25 (rowOf (zbytes 32)) (Bk.new w3 _ _) E32.out Q32.out (bytes_one _) ?_; intro w4 k4 g4 s4))
  rw [put_none]
  have HX3 := hid_ (HX2.out.trans (HB3.out.mono HX2.out.size))
  have hx4 := (HX3.out.alloc HX3.out.size (.cells (rowOf (zbytes 32)) 25)).grown g4 (by have := HX3.out.size; simp; omega) (fun k hk => by injection hk with hk; have := HX3.out.size; omega)
  have g5 : Below w3.heap.size w3 w4 := ((Below.refl w3.heap.size w3).alloc (Nat.le_refl _) (.cells (rowOf (zbytes 32)) 25)).grown g4 (by simp) (fun k hk => by injection hk with hk; omega)
  have p4 : Parts w4 w4.heap.size A1 L := ((HP2.out.below HB3.out (Nat.le_refl _)).more HB3.out.size |>.below g5 (Nat.le_refl _)).more g5.size
  have hD : w3.heap.size < w4.heap.size := k4.lt
  have t4 : Tab w4 := fun t h => (hx4.cell (p := ⟨_, t, none⟩) hg1).trans (HT.out t h)
  have hC : LastC w w4.heap.size w3.heap.size dg A1 L { w4 with drawn := w4.drawn + 1 } := ⟨Nat.le_refl _, hD, k4.drew, p4, t4, Nat.lt_of_lt_of_le hg1 hx4.size, hx4.drew, hx4.size⟩
  obtain ⟨D, hDe⟩ : ∃ D, Hid (w3.heap.size = D) := ⟨_, rfl⟩
  obtain ⟨B, hBe⟩ : ∃ B, Hid (w4.heap.size = B) := ⟨_, rfl⟩
  rw [hDe.out, hBe.out] at hC
  rw [hDe.out]
  have HD1 : Hid (∀ W : World, LastC w B D dg A1 L W → Calls Tryd.prog 15 #[] W fun e w' => e = .returned (.bool true) ∧ LastC w B D dg A1 L w') := hid_ (fun W h => (digests_any W h.2.2.2.2.1 (Nat.lt_of_lt_of_le h.2.2.2.2.2.1 h.1)).mono fun e w' hh => ⟨hh.1, h.below hh.2⟩)
  have HD2 : Hid (∀ W : World, LastC w B D dg A1 L W → Calls Tryd.prog 16 #[.string (strOf L.flatten)] W fun e w' => e = .returned (.string (strOf dg)) ∧ LastC w B D dg A1 L w') := hid_ (fun W h => (refSum_any L.flatten W (by have := HLT.out; omega)).mono fun e w' hh => ⟨by rw [hh.1, hdg.out], h.below hh.2⟩)
  have HD3 : Hid (∀ W : World, LastC w B D dg A1 L W → Calls Tryd.prog 13 #[.slice A1 n1 c1] W fun e w' => e = .returned (.string (strOf L.flatten)) ∧ LastC w B D dg A1 L w') := hid_ (fun W h => (all_any A1 n1 c1 L W HL1.out (h.2.2.2.1.more h.1) (by have := HL8.out; have := HL1.out; omega) (by have := HLT.out; omega)).mono fun e w' hh => ⟨hh.1, h.below hh.2⟩)
  have HCv : Hid (∀ W : World, LastC w B D dg A1 L W → (convert 28 9 (.slice (some ⟨D, 0, none⟩) 32 32)).run Tryd.prog W = .ok (.string (strOf dg)) W) := hid_ (fun W h => conv_strn (h.2.2.1.rd h.2.1) 32 32 hdl.out)
  have hda := dig_all D
  clear k4 g4 s4 hx4 g5 p4 hD t4 HX3 HB3 HX2 HP2 HB2 HP1 HB1 HT cs ca cf
  refine region_quiet_in (C := LastC w B D dg A1 L) (by kernel_rfl) (by kernel_rfl) hC ?_
  repeat (go_big_quiet_want; (first
    | (refine BigFrame.quiet_move _ rfl ?_; go_simp)
    | (refine BigFrame.quiet_assign _ rfl ?_; go_simp)
    | (refine quiet_run (.bool true) ?_ ?_; (focus (intro W hW; go_simp; done)); go_simp)
    | (refine quiet_run (.slice (some ⟨D, 0, none⟩) 32 32) ?_ ?_; (focus (intro W hW; go_simp; done)); go_simp)
    | (refine quiet_run (.string (strOf dg)) ?_ ?_; (focus (intro W hW; have h := HCv.out W hW; go_simp; done)); go_simp)
    | (refine quiet_call (.bool true) 15 #[] ?_ HD1.out ?_; (focus (intro W; go_simp; done)); go_simp)
    | (refine quiet_call (.string (strOf dg)) 16 #[.string (strOf L.flatten)] ?_ HD2.out ?_; (focus (intro W; go_simp; done)); go_simp)
    | (refine quiet_call (.string (strOf L.flatten)) 13 #[.slice A1 n1 c1] ?_ HD3.out ?_; (focus (intro W; go_simp; done)); go_simp)); go_big_quiet_on)
  refine wpQuiet_nil ?_
  intro W hW
  have hWb := hW.2.2.2.2.2.2.1
  clear hW
  go_wp2
  go_ret
  exact ⟨rfl, hWb⟩

/-- What the walk gives, for every argument and every world in which the constants lie. -/
theorem contract (H : Type) (enc : TypeId × Value → H) (W : World) (base : Nat) (args : Array Value) (ds gs : List (DataW H)) (before : List MemPlace)
    (hval : ∀ (j : Nat) t v, Tryd.f3.params[j]? = some t → args[j]? = some v → Value.okWide Tryd.prog W .any base t v)
    (hW : DataW.Whole enc Tryd.prog Tryd.f3.params.toList Rows.sha2SumsSpec.vars false W args.toList ds gs before) (hL : laidMetH Tryd.prog Rows.sha2SumsRow.laid W) :
    Calls Tryd.prog 3 args W fun e W' => ∃ v, e = .returned v ∧ Rows.sha2SumsSpec.post enc Tryd.prog Tryd.f3 false true false false W args v W' := by
  obtain ⟨ht, hg1⟩ := tab_of hL
  have hW' := hW
  obtain ⟨p, q, hA0, hV, rfl, hfz, hnd⟩ := hW
  have hA : DataW.TrodAll enc Tryd.prog W 0 (fun _ => true) true Tryd.f3.params.toList args.toList ds p := hA0
  rw [Tryd.params3] at hA hval
  obtain ⟨v0, vs0, d0, ds0, p0, q0, hargs, rfl, rfl, h0, r0⟩ := trodAll_cons hA
  obtain ⟨rfl, rfl, rfl⟩ := trodAll_nil r0
  obtain rfl : args = #[v0] := by cases args; simp_all
  obtain ⟨rfl, rfl⟩ := trodVars_none hV
  obtain ⟨A0, n0, c0, ls, rfl, hl0, hp0, hm0⟩ := open_parts Tryd.underlying22 Tryd.underlying28 Tryd.underlying5 (by kernel_rfl) (by kernel_rfl) (hval 0 22 v0 rfl rfl) h0
  refine (walk A0 n0 c0 ls W hl0 hp0 hm0 ht hg1).mono fun e W' ⟨he, hg⟩ => ⟨_, he, ?_⟩
  exact law_post laidOut_ (of_decide_eq_true (by kernel_rfl)) rfl rfl Tryd.underlying4 rfl hW' hg

theorem reads (os : Os) {H : Type} (enc : TypeId × Value → H) : ∃ places, DataW.whole enc Tryd.prog ((laidWorld os).forCall (fun _ _ => 0) ⟨#[], #[.slice none 0 0], []⟩).memory Tryd.f3.params.toList Rows.sha2SumsSpec.vars false #[Value.slice none 0 0].toList 8 = some ([.nil], [], places) :=
  ⟨[], by kernel_rfl⟩

set_option maxRecDepth 100000 in
theorem lifted (os : Os) (started : os.Started) (H : Type) (enc : TypeId × Value → H) (F : Stop.Interp) :
    ReturnsInHanded {} Tryd.checked os 3 .any ((OpenSpec.ofChange Rows.sha2SumsSpec).preRow enc Tryd.prog Tryd.f3 Rows.sha2SumsRow.domain false Rows.sha2SumsRow.laid) (((OpenSpec.ofChange Rows.sha2SumsSpec).at F).post enc Tryd.prog Tryd.f3 false true false false) := by
  obtain ⟨places, hx⟩ := reads os enc
  refine returnsInHanded_of_row (C := Tryd.checked) (s := OpenSpec.ofChange Rows.sha2SumsSpec) own_ started (by kernel_rfl) Tryd.func3
    (witness_row_at (enc := enc) (C := Tryd.checked) false (laidWorld os) #[.slice none 0 0] rfl (by kernel_rfl) (by kernel_rfl) (by kernel_rfl)
      (OpenSpec.preRow_of_cond 8 hx (by kernel_rfl) (fun k hk => by cases hk) (by kernel_rfl) (laid_met1 os))) ?_
  intro W base args ds gs before hval hW _ _ _ hL _ _
  exact contract H enc W base args ds gs before hval hW hL

theorem said : Rows.Sha2SumsSaid :=
  OpenClaim.holds_of_cond 3 Tryd.f3 rfl rfl rfl rfl rfl rfl rfl ⟨rfl, rfl, rfl, rfl, rfl⟩ rfl rfl rfl rfl rfl (by kernel_rfl) Tryd.func3 (by kernel_rfl)
    (of_decide_eq_true (by kernel_rfl)) (by unfold Func.isWrapper; first | (rw [if_pos (by decide +kernel)]; kernel_rfl) | (rw [if_neg (by decide +kernel)]; exact ⟨rfl, rfl⟩))
    (fun os started H enc _ F => by rw [OpenClaim.pre_eq_preRow]; exact lifted os started H enc F)

/-- No parameter wants a stand-in; the program's own looks are off: what the card asks. -/
theorem plain (f : FuncId) (fn : Func) (hf : Tryd.pinned.checked.prog.funcNamed "casket/casketlaw02.Sha2Sums" = some f) (hfn : Tryd.pinned.checked.prog.funcs[f]? = some fn) :
    false = Tryd.pinned.checked.prog.looks [] ∧ ∀ (j : Nat) t, fn.params[j]? = some t → Tryd.pinned.checked.prog.wantsStandIn t = false := by
  obtain rfl : f = 3 := Option.some.inj ((show Tryd.prog.funcNamed "casket/casketlaw02.Sha2Sums" = some 3 by kernel_rfl).symm.trans hf) |>.symm
  obtain rfl : fn = Tryd.f3 := (Option.some.inj (Tryd.func3.symm.trans hfn)).symm
  refine ⟨by kernel_rfl, fun j t ht => ?_⟩
  rw [Tryd.params3] at ht
  have hm := Array.mem_of_getElem? ht
  simp only [List.mem_toArray, List.mem_cons, List.not_mem_nil, or_false] at hm
  obtain rfl := hm
  exact (show Tryd.prog.wantsStandIn 22 = false by kernel_rfl)

/-- The card. -/
theorem proved : Rows.Sha2SumsCardSaid :=
  Claim7.holds_tied_plain_at .later [] _ _ _ _ said (fun _ h => by cases h) (by kernel_rfl) (fun _ h => by cases h) sha2Sums_row_tie rfl ⟨rfl, rfl⟩ (by kernel_rfl) rfl plain (by kernel_rfl)
#print axioms proved
end Go.Proofs.YtmiaeddgacgpfaaDoor.sha2Sums
