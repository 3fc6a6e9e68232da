/-
  Proved: for all contexts, clients and numbers DotNext answers true: what comes next of a client isn't in the set, nor is any number above it; the one ahead of it is, if there is one. No condition.
-/
import Derived.Test.YtjflmfmncepeeaaJd
import Derived.Test.YtjflmfmncepeeaaJe
import Derived.Test.YtjflmfmncepeeaaIg
import Derived.Test.YtjflmfmncepeeaaIk
import Derived.Test.YtjflmfmncepeeaaIl
import Derived.Laws.Cover3
import Derived.LaidEqlPtr
namespace Go.Proofs.Ytjflmfmncepeeaa.dotNext
open Go.ChangeShapes Go.WideShapes Go.ChangeAt Go.RowKit
set_option linter.unusedVariables false
set_option linter.unusedSimpArgs false

theorem lastN_in (up : List Int) (ms : List DotV) (z : Int) : ∀ k, k ≤ ms.length → ∀ j, j < k → (ms.getD j ⟨0, 0⟩).c = z → (ms.getD j ⟨0, 0⟩).n ≤ lastN up ms z k
  | 0, _, j, h, _ => absurd h (by omega)
  | k + 1, hk, j, h, hc => by
    have ih := lastN_in up ms z k (by omega)
    rw [lastN]
    rcases Nat.lt_or_ge j k with h1 | h1
    · have := ih j h1 hc
      split <;> omega
    · obtain rfl : j = k := by omega
      rw [if_pos hc]
      omega
theorem lastN_is (up : List Int) (ms : List DotV) (z : Int) : ∀ k, k ≤ ms.length → lastN up ms z k = up.getD (z - 1).toNat 0 ∨ ∃ j, j < k ∧ (ms.getD j ⟨0, 0⟩).c = z ∧ (ms.getD j ⟨0, 0⟩).n = lastN up ms z k
  | 0, _ => .inl rfl
  | k + 1, hk => by
    have ih := lastN_is up ms z k (by omega)
    rw [lastN]
    split
    · rename_i hc
      rcases Int.le_total (lastN up ms z k) (ms.getD k ⟨0, 0⟩).n with h | h
      · exact .inr ⟨k, by omega, hc, by omega⟩
      · rw [Int.max_eq_left h]
        rcases ih with ih | ⟨j, h1, h2, h3⟩
        · exact .inl ih
        · exact .inr ⟨j, by omega, h2, h3⟩
    · rcases ih with ih | ⟨j, h1, h2, h3⟩
      · exact .inl ih
      · exact .inr ⟨j, by omega, h2, h3⟩
/-- Of what Next tells: it isn't in the set, nor is what is above it; what is ahead of it is. -/
theorem next_is {up : List Int} {ms : List DotV} {z n : Int} (hu : up.length = 16) (h : nxt up ms z = (n, 0)) :
    (1 ≤ n ∧ n ≤ 1099511627776) ∧ (∀ f, n ≤ f → f ≤ 1099511627776 → hasR up ms ⟨z, f⟩ = false) ∧ (n ≠ 1 → hasR up ms ⟨z, n - 1⟩ = true) := by
  unfold nxt at h
  split at h
  · injection h with h1 h2; cases h2
  · rename_i h1
    have hc : chk up ms = 0 := by
      rcases Int.decEq (chk up ms) 0 with h | h
      · exact absurd (.inl h) h1
      · exact h
    have hz : isC z = true := by
      cases hq : isC z with
      | true => rfl
      | false => exact absurd (.inr hq) h1
    obtain ⟨z1, z2⟩ : 1 ≤ z ∧ z ≤ 16 := of_decide_eq_true hz
    have hcan := (chk_can hu hc).1
    split at h
    · injection h with h1 h2; cases h2
    · rename_i h2
      injection h with h3 _
      have hge := lastN_ge up ms z ms.length
      have hb := hcan.up16.2 (z - 1).toNat
      have hin : ∀ f, 1 ≤ f → f ≤ 1099511627776 → (hasR up ms ⟨z, f⟩ = true ↔ inS up ms ⟨z, f⟩) := fun f f1 f2 => hasR_iff hc (isD_iff.2 ⟨⟨z1, z2⟩, f1, f2⟩)
      refine ⟨by omega, fun f f1 f2 => ?_, fun hne => ?_⟩
      · rw [← Bool.not_eq_true]
        intro hq
        rcases (hin f (by omega) f2).1 hq with g | g
        · simp only at g; omega
        · obtain ⟨j, hj, e⟩ := mem_getD g
          have := lastN_in up ms z ms.length (Nat.le_refl _) j hj (by rw [e])
          rw [e] at this
          simp only at this; omega
      · rw [hin (n - 1) (by omega) (by omega)]
        rcases lastN_is up ms z ms.length (Nat.le_refl _) with e | ⟨j, hj, e1, e2⟩
        · left; simp only; omega
        · right
          have : ms.getD j ⟨0, 0⟩ = ⟨z, n - 1⟩ := by
            generalize ms.getD j ⟨0, 0⟩ = d at e1 e2
            obtain ⟨a, b⟩ := d
            simp only at e1 e2
            rw [e1, e2]
            congr 1
            omega
          rw [← this]
          exact getD_mem hj

theorem run_minI (x y m : Int) (hm : m = min x y) (w : World) (ts : Array TypeId) (t : TypeId) :
    (Builtin.min_ ts t #[.int .i64 x, .int .i64 y]).run Try.prog w = .ok (.int .i64 m) w := by
  simp [Builtin.min_, Builtin.min2]
  repeat' split
  all_goals omega

set_option maxRecDepth 100000 in
set_option maxHeartbeats 8000000 in
theorem walk (w : World) (up : List Int) (hu : up.length = 16) (A : Option Addr) (ms : List DotV) (c : Nat) (hc : ms.length ≤ c) (hc7 : c ≤ 9223372036854775807) (hr : RdD w w.heap.size A ms) (z more : Int) (hz1 : -9223372036854775808 ≤ z) (hz2 : z ≤ 9223372036854775807) (hm1 : -9223372036854775808 ≤ more) (hm2 : more ≤ 9223372036854775807) (n : Nat) (hn : ms.length = n) :
    Calls Try.prog 8 #[.agg (ctxRow up A n c), .int .i64 z, .int .i64 more] w fun e w' => e = .returned (.bool true) ∧ Below w.heap.size w w' := by
  obtain ⟨g, hg⟩ : ∃ g, w.heap.size = g := ⟨_, rfl⟩
  obtain ⟨w0, hw0⟩ : ∃ w0, w.alloc (.cells (ctxRow up A n c) 25) = w0 := ⟨_, rfl⟩
  have K0 := hidd_ (show Bk w0 g 25 (ctxRow up A n c) by rw [← hw0, ← hg]; exact Bk.new w _ _)
  have X0 := hidd_ (show Below g w w0 by rw [← hw0, ← hg]; exact (Below.refl _ _).alloc (Nat.le_refl _) _)
  have S0 : w0.heap.size = g + 1 := by rw [← hw0, ← hg]; simp
  rw [hg] at hr
  obtain ⟨m, hm⟩ : ∃ m, min n 40 = m := ⟨_, rfl⟩
  have ct := tame_any w0 up hu A n c ms hn (by rw [← hn]; exact hc) hc7 ((hr.below X0.out).more (by omega))
  obtain ⟨ml, hml⟩ : ∃ l, ms.take 40 = l := ⟨_, rfl⟩
  have ML := hidd_ (show ml.length = m by rw [← hml, List.length_take, hn, ← hm, Nat.min_comm])
  rw [hm, hml] at ct
  have hm40 : m ≤ 40 := by omega
  have hz := zX_
  have IR := hidd_ (fun A n c => (show (Try.prog.info? 25).map (·.size) = some (ctxRow up A n c).size by rw [ctxRow_size up A n c hu]; exact iRX_))
  have IX := hidd_ (fun A n c => (show (Try.prog.info? 29).map (·.size) = some (ctxRow up A n c).size by rw [ctxRow_size up A n c hu]; exact iX_))
  have HG := hidd_ hg
  have HU := hidd_ hu
  have HGL := hidd_ (show g < w0.heap.size by omega)
  clear hu hn hr hm hml S0 hc hc7
  go_enter Try.func8, Try.ntmps8
  go_upto_region 1 with fail
  clear hw0 hg
  go_upto_region 2 with (first
    | (refine wpList_load_row rfl 25 (.tmp 3) rfl g rfl 25 (ctxRow up A n c) (0, 0) _ K0.out Try.underlying25 rfl (IR.out _ _ _) ?_)
    | (go_at_call 9; ((with_reducible refine ct.mono ?_); clear ct; rintro e w1 ⟨A1, c1, rfl, hr1, hl1, hm1, hb1, ha1⟩; have K1 := hidd_ (K0.out.below hb1 HGL.out); have X1 := hidd_ (X0.out.trans (hb1.mono (Nat.le_of_lt HGL.out))); have R1 := hidd_ hr1; have HA1 := hidd_ ha1; have L1 := hidd_ (And.intro hl1 hm1); clear hr1 hl1 hm1 hb1 ha1))
    | (refine wpList_put_row rfl 25 _ _ rfl g (ctxRow up A1 m c1) rfl rfl 25 (ctxRow up A n c) K1.out (IR.out _ _ _) (by rw [ctxRow_size _ _ _ _ HU.out, ctxRow_size _ _ _ _ HU.out]) (ctxRow_one _ _ _ _) ?_; intro w2 k2 g2 s2; have K2 := hidd_ k2; have X2 := hidd_ (X1.out.grown g2 (Nat.le_of_lt K1.out.lt) (fun k hk => by injection hk with hk; omega)); have R2 := hidd_ ((R1.out.grownR (Nat.le_refl _) g2 (fun h b off e => by have := HA1.out (by rw [ML.out] at h; exact h) b off e; have := HGL.out; omega)).more (show w1.heap.size ≤ w2.heap.size by omega)); clear k2 g2 s2))
  have hgl2 : g < w2.heap.size := K2.out.lt
  have ct := to_any w2 up HU.out A1 m c1 ml ML.out (by omega) L1.out.1 L1.out.2 R2.out
  clear K0 K1 X0 X1 R1 HA1
  go_upto_region 3 with (first
    | (refine wpList_load_row rfl 25 (.tmp 3) rfl g rfl 25 (ctxRow up A1 m c1) (0, 0) _ K2.out Try.underlying25 rfl (IR.out _ _ _) ?_)
    | (go_at_call 10; ((with_reducible refine ct.mono ?_); clear ct; rintro e w3 ⟨A2, c2, rfl, hr3, hl3, hm3, hb3⟩; have X3 := hidd_ (X2.out.trans (hb3.mono (Nat.le_of_lt hgl2))); have R3 := hidd_ hr3; have L3 := hidd_ (And.intro hl3 hm3); have hg3 : g < w3.heap.size := Nat.lt_of_lt_of_le hgl2 hb3.size; clear hr3 hl3 hm3 hb3))
    | (refine wpList_put_row rfl 29 _ _ rfl w3.heap.size (ctxRow up A2 m c2) rfl rfl 29 (ctxRow (List.replicate 16 0) none 0 0) (Bk.new w3 _ _) (IX.out _ _ _) (by rw [ctxRow_size _ _ _ _ HU.out]; rfl) (ctxRow_one _ _ _ _) ?_; intro w4 k4 g4 s4; have B4 := hidd_ (((Below.refl w3.heap.size w3).alloc (Nat.le_refl _) (.cells (ctxRow (List.replicate 16 0) none 0 0) 29)).grown g4 (by simp) (fun k hk => by injection hk with hk; omega)); have K4 := hidd_ k4; clear k4 g4 s4))
  have R4 := hidd_ ((R3.out.below B4.out).more B4.out.size)
  have X4 := hidd_ (X3.out.trans (B4.out.mono (Nat.le_of_lt hg3)))
  have hg4 : g < w4.heap.size := Nat.lt_of_lt_of_le hg3 B4.out.size
  generalize w3.heap.size = p at *
  have K4' := hidd_ (show Bk w4 p 29 (ctxRow up A2 m c2) from K4.out)
  clear K4 B4 R3 X3 K2 X2 R2 hgl2 hg3
  have cn := next_any w4 up HU.out A2 m c2 ml ML.out (by omega) L3.out.1 R4.out z
  obtain ⟨q, hq⟩ : ∃ q, nxt up ml z = q := ⟨_, rfl⟩
  rw [hq] at cn
  obtain ⟨nn, ee⟩ := q
  simp only at cn
  by_cases he : ee = 0
  · subst he
    obtain ⟨⟨q1, q2⟩, q3, q4⟩ := next_is HU.out hq
    have HQ := hidd_ (And.intro q3 q4)
    obtain ⟨u, hu⟩ : ∃ u, IntKind.u64.wrap more = u := ⟨_, rfl⟩
    have hu1 : 0 ≤ u ∧ u ≤ 18446744073709551615 := by rw [← hu]; simp [IntKind.wrap, IntKind.bits, IntKind.signed]; omega
    obtain ⟨v, hv⟩ : ∃ v, u % 1000 = v := ⟨_, rfl⟩
    have hv1 : 0 ≤ v ∧ v ≤ 999 := by omega
    have t0 : IntKind.i64.wrap v = v := IntWalk.i64_in _ (by omega)
    have t1 : IntKind.i64.wrap (nn + v) = nn + v := IntWalk.i64_in _ (by omega)
    have t2 : IntKind.i64.wrap (nn - 1) = nn - 1 := IntWalk.i64_in _ (by omega)
    obtain ⟨far, hfar⟩ : ∃ f, f = min (nn + v) 1099511627776 := ⟨_, rfl⟩
    have hmn := fun W ts t => run_minI (nn + v) 1099511627776 far hfar W ts t
    have hf1 : nn ≤ far ∧ far ≤ 1099511627776 := by omega
    have HF := hidd_ hf1
    have h2 := HQ.out.1 far hf1.1 hf1.2
    have h1 := HQ.out.1 nn (Int.le_refl _) q2
    obtain ⟨bo, hbo⟩ : ∃ b, (nn == 1) = b := ⟨_, rfl⟩
    have h3 : bo = false → hasR up ml ⟨z, nn - 1⟩ = true := fun e => HQ.out.2 (by rw [e] at hbo; simpa using hbo)
    have H1 := hidd_ h1
    have H2 := hidd_ h2
    have H3 := hidd_ h3
    have HV := hidd_ (And.intro hv hu)
    obtain ⟨hu1a, hu1b⟩ := hu1
    obtain ⟨hv1a, hv1b⟩ := hv1
    clear hf1 h1 h2 h3 hq q3 q4 hfar
    go_upto_region 6 with (first
      | (refine wpList_load_row rfl 29 (.tmp 7) rfl p rfl 29 (ctxRow up A2 m c2) (0, 0) _ K4'.out Try.underlying29 rfl (IX.out _ _ _) ?_)
      | (go_at_call 13; ((with_reducible refine cn.mono ?_); clear cn; rintro e w5 ⟨rfl, hb⟩; have X5 := hidd_ (X4.out.trans (hb.mono (Nat.le_of_lt hg4))); have K5 := hidd_ (K4'.out.below hb K4'.out.lt); have R5 := hidd_ ((R4.out.below hb).more hb.size); have cd := dots_any w5; have hg5 := Nat.lt_of_lt_of_le hg4 hb.size; clear hb))
      | (go_at_call 15; ((with_reducible refine cd.mono ?_); clear cd; rintro e w6 ⟨rfl, hb⟩; have X6 := hidd_ (X5.out.trans (hb.mono (Nat.le_of_lt hg5))); have hg6 := Nat.lt_of_lt_of_le hg5 hb.size; have K6 := hidd_ (K5.out.below hb K5.out.lt); have R6 := hidd_ ((R5.out.below hb).more hb.size); clear hb)))
    have c7 : Calls Try.prog 17 #[.agg (ctxRow up A2 m c2), .agg #[.int .i64 z, .int .i64 nn]] w6 fun e w' => e = .returned (.bool false) ∧ Below w6.heap.size w6 w' := by
      have h := has_any_ w6 up HU.out A2 m c2 ml ML.out (by omega) L3.out.1 R6.out ⟨z, nn⟩
      rw [H1.out] at h
      exact h
    clear K4' R4 X4 K5 R5 X5 hg5 hg4
    cases bo
    all_goals
      first
        | have H4 := hidd_ (H3.out rfl)
        | skip
      go_wp2_with (first
        | (have _h4 := H4.out; clear _h4; refine wpList_load_rowWd (by go_simp) 29 (.tmp 7) rfl p rfl 29 (ctxRow up A2 m c2) K8.out _ Try.underlying29 rfl (IX.out _ _ _) ?_)
        | (refine wpList_load_rowWd (by go_simp) 29 (.tmp 7) rfl p rfl 29 (ctxRow up A2 m c2) K7.out _ Try.underlying29 rfl (IX.out _ _ _) ?_)
        | (refine wpList_load_rowWd (by go_simp) 29 (.tmp 7) rfl p rfl 29 (ctxRow up A2 m c2) K6.out _ Try.underlying29 rfl (IX.out _ _ _) ?_)
        | (go_at_call 17; ((with_reducible refine c7.mono ?_); clear c7; rintro e w7 ⟨rfl, hb⟩; have X7 := hidd_ (X6.out.trans (hb.mono (Nat.le_of_lt hg6))); have K7 := hidd_ (K6.out.below hb K6.out.lt); have hg7 := Nat.lt_of_lt_of_le hg6 hb.size; have R7 := hidd_ ((R6.out.below hb).more hb.size); clear hb; have c8 : Calls Try.prog 17 #[.agg (ctxRow up A2 m c2), .agg #[.int .i64 z, .int .i64 far]] w7 (fun e w' => e = .returned (.bool (hasR up ml ⟨z, far⟩)) ∧ Below w7.heap.size w7 w') := has_any_ w7 up HU.out A2 m c2 ml ML.out (by omega) L3.out.1 R7.out ⟨z, far⟩; rw [H2.out] at c8))
        | (go_at_call 17; ((with_reducible refine c8.mono ?_); clear c8; rintro e w8 ⟨rfl, hb⟩; have X8 := hidd_ (X7.out.trans (hb.mono (Nat.le_of_lt hg7))); have K8 := hidd_ (K7.out.below hb K7.out.lt); have hg8 := Nat.lt_of_lt_of_le hg7 hb.size; have R8 := hidd_ ((R7.out.below hb).more hb.size); clear hb; have c9 : Calls Try.prog 17 #[.agg (ctxRow up A2 m c2), .agg #[.int .i64 z, .int .i64 (nn - 1)]] w8 (fun e w' => e = .returned (.bool (hasR up ml ⟨z, nn - 1⟩)) ∧ Below w8.heap.size w8 w') := has_any_ w8 up HU.out A2 m c2 ml ML.out (by omega) L3.out.1 R8.out ⟨z, nn - 1⟩))
        | (go_at_call 17; rw [H4.out] at c9; ((with_reducible refine c9.mono ?_); clear c9; rintro e w9 ⟨rfl, hb⟩; have X9 := hidd_ (X8.out.trans (hb.mono (Nat.le_of_lt hg8))); clear hb)))
      go_ret
      exact ⟨rfl, by rw [HG.out]; first | exact X9.out | exact X8.out⟩
  · have b1 : (ee == 0) = false := by simpa using he
    have b2 : (ee != 0) = true := by simpa using he
    clear he hq
    go_wp2_with (first
      | (refine wpList_load_row rfl 29 (.tmp 7) rfl p rfl 29 (ctxRow up A2 m c2) (0, 0) _ K4'.out Try.underlying29 rfl (IX.out _ _ _) ?_)
      | (go_at_call 13; ((with_reducible refine cn.mono ?_); clear cn; rintro e w5 ⟨rfl, hb⟩; have X5 := hidd_ (X4.out.trans (hb.mono (Nat.le_of_lt hg4))); have cd := dots_any w5; have hg5 := Nat.lt_of_lt_of_le hg4 hb.size; clear hb))
      | (go_at_call 15; ((with_reducible refine cd.mono ?_); clear cd; rintro e w6 ⟨rfl, hb⟩; have X6 := hidd_ (X5.out.trans (hb.mono (Nat.le_of_lt hg5))); have hg6 := Nat.lt_of_lt_of_le hg5 hb.size; have ce := dots_any w6; clear hb))
      | (go_at_call 15; ((with_reducible refine ce.mono ?_); clear ce; rintro e w7 ⟨rfl, hb⟩; have X7 := hidd_ (X6.out.trans (hb.mono (Nat.le_of_lt hg6))); clear hb)))
    go_ret
    exact ⟨rfl, by rw [HG.out]; exact X7.out⟩

set_option maxRecDepth 100000 in
theorem lifted (os : Os) (started : os.Started) (H : Type) (enc : TypeId × Value → H) :
    ReturnsInHanded {} Try.checked os 8 .any (Rows.dotNextSpec.pre6 enc Try.prog Try.f8 Rows.dotNextRow.domain false) (Rows.dotNextSpec.post enc Try.prog Try.f8 false true false false) := by
  refine returnsInHanded_of_change (C := Try.checked) own_ started (by kernel_rfl) Try.func8
    (ChangeSpec.witness6 (enc := enc) (C := Try.checked) false ⟨#[], #[.agg (ctxRow [0, 0, 0, 0, 0, 0, 0, 0, 0, 0, 0, 0, 0, 0, 0, 0] none 0 0), .int .i64 0, .int .i64 0], []⟩ 8 (by kernel_rfl) (by kernel_rfl) (by kernel_rfl) (by kernel_rfl)) ?_
  intro W base args ds gs before hval0 hW hcnd _
  have hval : ∀ (j : Nat) t v, Try.f8.params[j]? = some t → args[j]? = some v → Value.okWide Try.prog W .any base t v := hval0
  have hW' := hW
  obtain ⟨p, q, hA0, hV, rfl, hfz, hnd⟩ := hW
  have hA : DataW.TrodAll enc Try.prog W 0 (fun _ => true) true Try.f8.params.toList args.toList ds p := hA0
  rw [Try.params8] at hA hval
  obtain ⟨v0, vs0, d0, ds0, p0, q0, hargs, rfl, rfl, h0, r0⟩ := trodAll_cons hA
  obtain ⟨v1, vs1, d1, ds1, p1, q1, rfl, rfl, rfl, h1, r1⟩ := trodAll_cons r0
  obtain ⟨v2, vs2, d2, ds2, p2, q2, rfl, rfl, rfl, h2, r2⟩ := trodAll_cons r1
  obtain ⟨rfl, rfl, rfl⟩ := trodAll_nil r2
  obtain rfl : args = #[v0, v1, v2] := by cases args; simp_all
  obtain ⟨rfl, rfl⟩ := trodVars_none hV
  obtain ⟨up0, A0, l0, c0, rfl, hul0, hub0, hr0, hx0, hlc0, hcm0⟩ := open_ctx Try.underlying25 ⟨rfl, rfl⟩ ⟨rfl, rfl⟩ Try.underlying22 (by kernel_rfl) (by kernel_rfl) (by kernel_rfl) Try.underlying23 Try.underlying27 ⟨rfl, rfl⟩ ⟨rfl, rfl⟩ Try.underlying3 (by kernel_rfl) (by kernel_rfl) (hval 0 25 v0 rfl rfl) h0
  obtain ⟨a1, rfl, rfl, rfl, w1⟩ := open_int Try.underlying3 (hval 1 3 v1 rfl rfl) h1
  obtain ⟨b1, e1⟩ := bounds_i64 w1
  obtain ⟨a2, rfl, rfl, rfl, w2⟩ := open_int Try.underlying3 (hval 2 3 v2 rfl rfl) h2
  obtain ⟨b2, e2⟩ := bounds_i64 w2
  refine (walk W up0 hul0 A0 l0 c0 hlc0 (by unfold maxLen at hcm0; omega) hr0 a1 a2 b1 e1 b2 e2 _ rfl).mono fun e W' ⟨he, hg⟩ => ⟨_, he, ?_⟩
  exact law_post laidOut_ (of_decide_eq_true (by kernel_rfl)) rfl rfl Try.underlying4 rfl hW' hg

theorem over : Rows.dotNextRow.holds Try.pinned (OpenSpec.ofChange Rows.dotNextSpec) :=
  OpenClaim.holds_of_wide 8 Try.f8 rfl rfl rfl rfl rfl rfl rfl ⟨rfl, rfl, rfl, rfl, rfl⟩ rfl rfl rfl rfl rfl (by kernel_rfl) Try.func8 (by kernel_rfl)
    (of_decide_eq_true (by kernel_rfl)) (by unfold Func.isWrapper; first | (rw [if_pos (by decide +kernel)]; kernel_rfl) | (rw [if_neg (by decide +kernel)]; exact ⟨rfl, rfl⟩))
    (fun os started H enc _ => lifted os started H enc)

theorem proved : Rows.DotNextSaid := over
#print axioms proved
end Go.Proofs.Ytjflmfmncepeeaa.dotNext
