/-
  Proved: for every text of bytes and every row of places Sha2Parts answers true: the digest of a text's parts is that of the whole, however it is parted. No condition.
-/
import Derived.Test.YtikbpgddlplegaaDoorPt
import Derived.Test.YtikbpgddlplegaaDoorLc
namespace Go.Proofs.YtikbpgddlplegaaDoor.sha2Parts
open Go.ChangeShapes Go.WideShapes Go.ChangeAt Go.RowKit
set_option linter.unusedVariables false

theorem u64_nat (z : Int) : ∃ x : Nat, IntKind.u64.wrap z = (x : Int) ∧ x ≤ 18446744073709551615 := by
  have h : IntKind.u64.wrap z = z % 18446744073709551616 := by simp [IntKind.wrap, IntKind.signed, IntKind.bits]
  rw [h]
  exact ⟨(z % 18446744073709551616).toNat, by omega, by omega⟩
theorem u64_in (n : Nat) (h : n ≤ 18446744073709551615) : IntKind.u64.wrap (n : Int) = (n : Int) := by
  simp [IntKind.wrap, IntKind.signed, IntKind.bits]; omega
theorem rem_nat (x n : Nat) : ∃ k : Nat, (x : Int).tmod ((n + 1 : Nat) : Int) = (k : Int) ∧ k ≤ n := by
  refine ⟨x % (n + 1), ?_, ?_⟩
  · rw [Int.tmod_eq_emod_of_nonneg (by omega)]; omega
  · have := Nat.mod_lt x (show 0 < n + 1 by omega); omega
theorem cut_at (z : Int) (n : Nat) (hn : n ≤ 300) : ∃ k : Nat, k ≤ n ∧ Hid (wrap64 ((IntKind.u64.wrap z).tmod ((n : Int) + 1)) = (k : Int)) := by
  obtain ⟨x, hx, _⟩ := u64_nat z
  obtain ⟨k, e3, hk⟩ := rem_nat x n
  refine ⟨k, hk, ?_⟩
  show _ = _
  rw [hx, show ((n : Int) + 1) = ((n + 1 : Nat) : Int) by omega, e3]
  unfold wrap64
  omega

theorem rd_from {w : World} {B : Nat} {A : Option Addr} {l : List UInt8} (h : Rd w B A l) (c k : Nat) (hk : k ≤ l.length) (hc : l.length ≤ c) : Rd w B (if c = k then A else A.map (·.add k)) (l.drop k) := by
  by_cases hck : c = k
  · rw [if_pos hck]
    have : l.drop k = [] := List.drop_eq_nil_of_le (by omega)
    rw [this]
    exact Rd.nil
  · rw [if_neg hck]
    intro hn
    have hl : 0 < l.length := by simp at hn; omega
    obtain ⟨b, off, e, _⟩ := h hl
    subst e
    have hadd : (⟨b, off, none⟩ : Addr).add k = ⟨b, off + k, none⟩ := by unfold Addr.add; split <;> simp_all
    rw [Option.map_some, hadd]
    exact h.drop k hn

/-- Before the k-th part is cut: ls have been, and left is what is left. -/
def Inv (w : World) (L : List UInt8) (pv lv i : Value) (wr : World) : Prop :=
  ∃ (ls : List (List UInt8)) (A : Option Addr) (c : Nat) (left : List UInt8), ls.length ≤ 6 ∧ i = .int .i64 ls.length ∧ OwnP wr w.heap.size w.heap.size pv ls ∧ lv = .slice A left.length c ∧ left.length ≤ c ∧ c ≤ maxLen ∧ Rd wr w.heap.size A left ∧ ls.flatten ++ left = L ∧ Below w.heap.size w wr

set_option maxRecDepth 100000 in
set_option maxHeartbeats 2000000 in
theorem walk (A0 : Option Addr) (c0 : Nat) (l : List UInt8) (A1 : Option Addr) (n1 c1 : Nat) (w : World) (hr : Rd w w.heap.size A0 l) (hlc : l.length ≤ c0) (hcm : c0 ≤ maxLen) (hi : RdI w w.heap.size A1 n1) (hn1 : n1 ≤ maxLen)
    (ht : Tab w) (hg1 : 0 < w.heap.size) :
    Calls Tryd.prog 5 #[.slice A0 l.length c0, .slice A1 n1 c1] w fun e w' => e = .returned (.bool true) ∧ Below w.heap.size w w' := by
  obtain ⟨nb, hnb⟩ : ∃ nb, (l.take 300).length = nb := ⟨_, rfl⟩
  have hmin : nb = min 300 l.length := by rw [← hnb, List.length_take]
  have hrL := hr.take 300
  have HT := hid_ ht
  clear ht
  go_enter Tryd.func5, Tryd.ntmps5
  go_wp2
  case' inl h =>
    have e : 300 = nb := by omega
    rw [e]
    clear e
  case' inr h =>
    have e : l.length = nb := by omega
    rw [e]
    clear e
  all_goals
    have HN : Hid (nb ≤ 300) := hid_ (by omega)
    have hnc : nb ≤ c0 := by omega
    generalize l.take 300 = L at *
    clear hr h hmin hlc
    go_loopw [5, 6, 7, 8] (fun pv lv i _ wr => Inv w L pv lv i wr) (fun _ _ i _ _ => 6 - (intOf i).toNat)
    case atStart => exact ⟨[], A0, c0, L, by simp, rfl, OwnP.nil_ _ _ _, by rw [hnb], by omega, hcm, hrL, rfl, Below.refl _ _⟩
    case round =>
      obtain ⟨ls, A, c, left, hk, rfl, hpv, rfl, hlc', hcm', hleft, hcat, hb⟩ := hrel
      obtain ⟨PA, Pc, rfl⟩ := hpv.form
      have HP := hid_ hpv
      have HB := hid_ hb
      have HC := hid_ hcat
      have HL := hid_ hleft
      clear hpv hb hcat hleft
      by_cases h1 : ls.length < n1
      · by_cases h2 : ls.length < 6
        · have d1 : decide ((ls.length : Int) < (n1 : Int)) = true := decide_eq_true (by omega)
          have d2 : decide ((ls.length : Int) < 6) = true := decide_eq_true (by omega)
          obtain ⟨b, off, hA, hbB, hcell⟩ := hi (by omega)
          subst hA
          obtain ⟨z, hz, hz0, hz1⟩ := hcell _ h1
          have hz' : wr.cell? ⟨b, off + ls.length, none⟩ = some (.int .i64 z) := (HB.out.cell (p := ⟨b, off + ls.length, none⟩) hbB).trans hz
          clear hcell hz
          have hll : left.length ≤ 300 := by
            have h := congrArg List.length HC.out
            rw [List.length_append, hnb] at h
            have := HN.out
            omega
          obtain ⟨kk, hkk, EK⟩ := cut_at z left.length hll
          have csl := fun W => slice_from A left.length c kk hkk W
          go_wp2_with (first
            | rw [EK.out]
            | (refine wpList_appP rfl (.tmp 36) (.tmp 40) rfl (HP.out.alloc HB.out.size _) rfl wr.heap.size 1 rfl (.slice A kk c) rfl (World.cell?_alloc_mark _ _ _ _ _) (m := left.take kk) ⟨A, c, by rw [List.length_take, Nat.min_eq_left hkk], (HL.out.take kk).alloc HB.out.size _, by rw [List.length_take]; omega, hcm'⟩ (by omega) (by have := HB.out.size; simp; omega) (Nat.le_refl _) ?_; intro A' c' w' h5 h6 h7))
          have b1 := HB.out.alloc HB.out.size (.cells #[.slice A kk c] 28)
          have hlt := HP.out.lt
          have b2 := b1.grown h6 b1.size (fun g hg => (hlt g hg).1)
          have hke := cell_grown (B := w.heap.size) h6 b1.size (fun g hg => (hlt g hg).1)
          have hl' : (ls ++ [left.take kk]).length = ls.length + 1 := by simp
          have hd' : (left.drop kk).length = left.length - kk := List.length_drop
          refine ⟨⟨ls ++ [left.take kk], _, c - kk, left.drop kk, by omega, by rw [hl']; go_num, h5, by rw [hd'], by omega, by omega, (rd_from ((HL.out.alloc HB.out.size _).keep hke) c kk hkk hlc'), ?_, b2⟩, by simp [intOf]; omega⟩
          rw [← HC.out, List.flatten_append]
          simp
        · have d1 : decide ((ls.length : Int) < (n1 : Int)) = true := decide_eq_true (by omega)
          have d2 : decide ((ls.length : Int) < 6) = false := decide_eq_false (by omega)
          have cd := digests_any wr (fun t h => (HB.out.cell (p := ⟨_, t, none⟩) hg1).trans (HT.out t h)) (Nat.lt_of_lt_of_le hg1 HB.out.size)
          have hsz0 := HB.out.size
          obtain ⟨dg, HD⟩ : ∃ dg, Hid (sha L = dg) := ⟨_, rfl⟩
          have hq : ∀ W : World, (binOp .eql 25 (.agg (rowOf dg)) (.agg (rowOf dg))).run Tryd.prog W = .ok (.bool true) W := fun W => by
            have hl : dg.length = 32 := by rw [← HD.out]; exact sha_len _
            rw [eql32 dg dg hl hl W]; simp
          have hfl : Hid ((ls ++ [left]).flatten = L) := hid_ (by rw [List.flatten_append, ← HC.out]; simp)
          have hll : Hid (L.length ≤ 300) := hid_ (by rw [hnb]; exact HN.out)
          go_wp2_with (first
            | (go_at_call 15; ((with_reducible refine cd.mono ?_); rintro e w2 ⟨rfl, b2⟩);
               have HP2 := hid_ (HP.out.below b2 (Nat.le_refl _) hsz0);
               have HL2 := hid_ (HL.out.below (b2.mono hsz0));
               have HB2 := hid_ (HB.out.trans (b2.mono hsz0)))
            | (refine wpList_appPg rfl (.tmp 47) (.tmp 49) rfl (HP2.out.alloc HB2.out.size _) rfl w2.heap.size 1 rfl (.slice A left.length c) rfl (World.cell?_alloc_mark _ _ _ _ _) (m := left) ⟨A, c, rfl, HL2.out.alloc HB2.out.size _, hlc', hcm'⟩ (by omega) (by have := HB2.out.size; simp; omega) (Nat.le_refl _) ?_; intro A' c' w3 h5 h6 h7;
               have HB3 := hid_ ((HB2.out.alloc HB2.out.size (.cells #[.slice A left.length c] 28)).grown h6 (by have := HB2.out.size; simp; omega) (fun g hg => (HP2.out.lt g hg).1));
               have cs1 := sum_any A' (ls.length + 1) c' (ls ++ [left]) w3 (by simp) (h5.parts HB3.out.size rfl) (by omega) (by rw [hfl.out]; have := hll.out; omega) (fun t h => (HB3.out.cell (p := ⟨_, t, none⟩) hg1).trans (HT.out t h)) (Nat.lt_of_lt_of_le hg1 HB3.out.size);
               rw [hfl.out, HD.out] at cs1)
            | (go_at_call 14; ((with_reducible refine cs1.mono ?_); rintro e w4 ⟨rfl, b4⟩);
               have HB4 := hid_ (HB3.out.trans (b4.mono HB3.out.size));
               have cs2 := sum_any (some ⟨w4.heap.size, 0, none⟩) 1 1 [L] (w4.alloc (.cells #[.slice A0 nb c0] 28)) rfl (by simpa using parts_one w4 A0 nb c0 L w.heap.size hnb (hrL.below HB4.out) HB4.out.size hnc hcm) (by omega) (by have := hll.out; simp; omega) (fun t h => ((HB4.out.alloc HB4.out.size _).cell (p := ⟨_, t, none⟩) hg1).trans (HT.out t h)) (by have := HB4.out.size; simp);
               rw [show ([L] : List (List UInt8)).flatten = L by simp, HD.out] at cs2)
            | (go_at_call 14; ((with_reducible refine cs2.mono ?_); rintro e w5 ⟨rfl, b5⟩)))
          have HB5 := (HB4.out.alloc HB4.out.size (.cells #[.slice A0 nb c0] 28)).trans (b5.mono (by have := HB4.out.size; simp; omega))
          go_ret
          exact ⟨rfl, HB5⟩
      · have d1 : decide ((ls.length : Int) < (n1 : Int)) = false := decide_eq_false (by omega)
        have cd := digests_any wr (fun t h => (HB.out.cell (p := ⟨_, t, none⟩) hg1).trans (HT.out t h)) (Nat.lt_of_lt_of_le hg1 HB.out.size)
        have hsz0 := HB.out.size
        obtain ⟨dg, HD⟩ : ∃ dg, Hid (sha L = dg) := ⟨_, rfl⟩
        have hq : ∀ W : World, (binOp .eql 25 (.agg (rowOf dg)) (.agg (rowOf dg))).run Tryd.prog W = .ok (.bool true) W := fun W => by
          have hl : dg.length = 32 := by rw [← HD.out]; exact sha_len _
          rw [eql32 dg dg hl hl W]; simp
        have hfl : Hid ((ls ++ [left]).flatten = L) := hid_ (by rw [List.flatten_append, ← HC.out]; simp)
        have hll : Hid (L.length ≤ 300) := hid_ (by rw [hnb]; exact HN.out)
        go_wp2_with (first
          | (go_at_call 15; ((with_reducible refine cd.mono ?_); rintro e w2 ⟨rfl, b2⟩);
             have HP2 := hid_ (HP.out.below b2 (Nat.le_refl _) hsz0);
             have HL2 := hid_ (HL.out.below (b2.mono hsz0));
             have HB2 := hid_ (HB.out.trans (b2.mono hsz0)))
          | (refine wpList_appPg rfl (.tmp 47) (.tmp 49) rfl (HP2.out.alloc HB2.out.size _) rfl w2.heap.size 1 rfl (.slice A left.length c) rfl (World.cell?_alloc_mark _ _ _ _ _) (m := left) ⟨A, c, rfl, HL2.out.alloc HB2.out.size _, hlc', hcm'⟩ (by omega) (by have := HB2.out.size; simp; omega) (Nat.le_refl _) ?_; intro A' c' w3 h5 h6 h7;
             have HB3 := hid_ ((HB2.out.alloc HB2.out.size (.cells #[.slice A left.length c] 28)).grown h6 (by have := HB2.out.size; simp; omega) (fun g hg => (HP2.out.lt g hg).1));
             have cs1 := sum_any A' (ls.length + 1) c' (ls ++ [left]) w3 (by simp) (h5.parts HB3.out.size rfl) (by omega) (by rw [hfl.out]; have := hll.out; omega) (fun t h => (HB3.out.cell (p := ⟨_, t, none⟩) hg1).trans (HT.out t h)) (Nat.lt_of_lt_of_le hg1 HB3.out.size);
             rw [hfl.out, HD.out] at cs1)
          | (go_at_call 14; ((with_reducible refine cs1.mono ?_); rintro e w4 ⟨rfl, b4⟩);
             have HB4 := hid_ (HB3.out.trans (b4.mono HB3.out.size));
             have cs2 := sum_any (some ⟨w4.heap.size, 0, none⟩) 1 1 [L] (w4.alloc (.cells #[.slice A0 nb c0] 28)) rfl (by simpa using parts_one w4 A0 nb c0 L w.heap.size hnb (hrL.below HB4.out) HB4.out.size hnc hcm) (by omega) (by have := hll.out; simp; omega) (fun t h => ((HB4.out.alloc HB4.out.size _).cell (p := ⟨_, t, none⟩) hg1).trans (HT.out t h)) (by have := HB4.out.size; simp);
             rw [show ([L] : List (List UInt8)).flatten = L by simp, HD.out] at cs2)
          | (go_at_call 14; ((with_reducible refine cs2.mono ?_); rintro e w5 ⟨rfl, b5⟩)))
        have HB5 := (HB4.out.alloc HB4.out.size (.cells #[.slice A0 nb c0] 28)).trans (b5.mono (by have := HB4.out.size; simp; omega))
        go_ret
        exact ⟨rfl, HB5⟩

/-- What the walk gives, for every argument and every world in which the constants lie. -/
theorem contract (H : Type) (enc : TypeId × Value → H) (W : World) (base : Nat) (args : Array Value) (ds gs : List (DataW H)) (before : List MemPlace)
    (hval : ∀ (j : Nat) t v, Tryd.f5.params[j]? = some t → args[j]? = some v → Value.okWide Tryd.prog W .any base t v)
    (hW : DataW.Whole enc Tryd.prog Tryd.f5.params.toList Rows.sha2PartsSpec.vars false W args.toList ds gs before) (hL : laidMetH Tryd.prog Rows.sha2PartsRow.laid W) :
    Calls Tryd.prog 5 args W fun e W' => ∃ v, e = .returned v ∧ Rows.sha2PartsSpec.post enc Tryd.prog Tryd.f5 false true false false W args v W' := by
  obtain ⟨ht, hg1⟩ := tab_of hL
  have hW' := hW
  obtain ⟨p, q, hA0, hV, rfl, hfz, hnd⟩ := hW
  have hA : DataW.TrodAll enc Tryd.prog W 0 (fun _ => true) true Tryd.f5.params.toList args.toList ds p := hA0
  rw [Tryd.params5] at hA hval
  obtain ⟨v0, vs0, d0, ds0, p0, q0, hargs, rfl, rfl, h0, r0⟩ := trodAll_cons hA
  obtain ⟨v1, vs1, d1, ds1, p1, q1, rfl, rfl, rfl, h1, r1⟩ := trodAll_cons r0
  obtain ⟨rfl, rfl, rfl⟩ := trodAll_nil r1
  obtain rfl : args = #[v0, v1] := by cases args; simp_all
  obtain ⟨rfl, rfl⟩ := trodVars_none hV
  obtain ⟨A0, l, c0, rfl, hr, hlc, hcm⟩ := open_bytes Tryd.underlying28 Tryd.underlying5 (by kernel_rfl) (hval 0 28 v0 rfl rfl) h0
  obtain ⟨A1, n1, c1, rfl, hi, hn1⟩ := open_intsI Tryd.underlying33 Tryd.underlying3 (by kernel_rfl) (hval 1 33 v1 rfl rfl) h1
  refine (walk A0 c0 l A1 n1 c1 W hr hlc hcm hi hn1 ht hg1).mono fun e W' ⟨he, hg⟩ => ⟨_, he, ?_⟩
  exact law_post laidOut_ (of_decide_eq_true (by kernel_rfl)) rfl rfl Tryd.underlying4 rfl hW' hg

theorem reads (os : Os) {H : Type} (enc : TypeId × Value → H) : ∃ places, DataW.whole enc Tryd.prog ((laidWorld os).forCall (fun _ _ => 0) ⟨#[], #[.slice none 0 0, .slice none 0 0], []⟩).memory Tryd.f5.params.toList Rows.sha2PartsSpec.vars false #[Value.slice none 0 0, Value.slice none 0 0].toList 8 = some ([.nil, .nil], [], places) :=
  ⟨[], by kernel_rfl⟩

set_option maxRecDepth 100000 in
theorem lifted (os : Os) (started : os.Started) (H : Type) (enc : TypeId × Value → H) (F : Stop.Interp) :
    ReturnsInHanded {} Tryd.checked os 5 .any ((OpenSpec.ofChange Rows.sha2PartsSpec).preRow enc Tryd.prog Tryd.f5 Rows.sha2PartsRow.domain false Rows.sha2PartsRow.laid) (((OpenSpec.ofChange Rows.sha2PartsSpec).at F).post enc Tryd.prog Tryd.f5 false true false false) := by
  obtain ⟨places, hx⟩ := reads os enc
  refine returnsInHanded_of_row (C := Tryd.checked) (s := OpenSpec.ofChange Rows.sha2PartsSpec) own_ started (by kernel_rfl) Tryd.func5
    (witness_row_at (enc := enc) (C := Tryd.checked) false (laidWorld os) #[.slice none 0 0, .slice none 0 0] rfl (by kernel_rfl) (by kernel_rfl) (by kernel_rfl)
      (OpenSpec.preRow_of_cond 8 hx (by kernel_rfl) (fun k hk => by cases hk) (by kernel_rfl) (laid_met2 os))) ?_
  intro W base args ds gs before hval hW _ _ _ hL _ _
  exact contract H enc W base args ds gs before hval hW hL

theorem said : Rows.Sha2PartsSaid :=
  OpenClaim.holds_of_cond 5 Tryd.f5 rfl rfl rfl rfl rfl rfl rfl ⟨rfl, rfl, rfl, rfl, rfl⟩ rfl rfl rfl rfl rfl (by kernel_rfl) Tryd.func5 (by kernel_rfl)
    (of_decide_eq_true (by kernel_rfl)) (by unfold Func.isWrapper; first | (rw [if_pos (by decide +kernel)]; kernel_rfl) | (rw [if_neg (by decide +kernel)]; exact ⟨rfl, rfl⟩))
    (fun os started H enc _ F => by rw [OpenClaim.pre_eq_preRow]; exact lifted os started H enc F)

/-- No parameter wants a stand-in; the program's own looks are off: what the card asks. -/
theorem plain (f : FuncId) (fn : Func) (hf : Tryd.pinned.checked.prog.funcNamed "casket/casketlaw02.Sha2Parts" = some f) (hfn : Tryd.pinned.checked.prog.funcs[f]? = some fn) :
    false = Tryd.pinned.checked.prog.looks [] ∧ ∀ (j : Nat) t, fn.params[j]? = some t → Tryd.pinned.checked.prog.wantsStandIn t = false := by
  obtain rfl : f = 5 := Option.some.inj ((show Tryd.prog.funcNamed "casket/casketlaw02.Sha2Parts" = some 5 by kernel_rfl).symm.trans hf) |>.symm
  obtain rfl : fn = Tryd.f5 := (Option.some.inj (Tryd.func5.symm.trans hfn)).symm
  refine ⟨by kernel_rfl, fun j t ht => ?_⟩
  rw [Tryd.params5] at ht
  have hm := Array.mem_of_getElem? ht
  simp only [List.mem_toArray, List.mem_cons, List.not_mem_nil, or_false] at hm
  rcases hm with rfl | rfl
  · exact (show Tryd.prog.wantsStandIn 28 = false by kernel_rfl)
  · exact (show Tryd.prog.wantsStandIn 33 = false by kernel_rfl)

/-- The card. -/
theorem proved : Rows.Sha2PartsCardSaid :=
  Claim7.holds_tied_plain_at .later [] _ _ _ _ said (fun _ h => by cases h) (by kernel_rfl) (fun _ h => by cases h) sha2Parts_row_tie rfl ⟨rfl, rfl⟩ (by kernel_rfl) rfl plain (by kernel_rfl)
#print axioms proved
end Go.Proofs.YtikbpgddlplegaaDoor.sha2Parts
