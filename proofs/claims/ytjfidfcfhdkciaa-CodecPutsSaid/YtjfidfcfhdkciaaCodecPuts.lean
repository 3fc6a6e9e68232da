/-
  Proved: for all rows of parts CodecPuts answers true: of all parts the bytes are told, or that one is none. No condition.
-/
import Derived.Test.YtjfidfcfhdkciaaGg
import Derived.Test.YtjfidfcfhdkciaaLp
import Derived.LaidEqlPtr
namespace Go.Proofs.Ytjfidfcfhdkciaa.codecPuts
open Go.ChangeShapes Go.WideShapes Go.ChangeAt Go.RowKit
set_option linter.unusedVariables false
set_option linter.unusedSimpArgs false

theorem hid_ {p : Prop} (h : p) : Hid p := h
set_option maxRecDepth 100000 in
set_option maxHeartbeats 1000000 in
theorem small_nil (w : World) : Calls Try.prog 14 #[.pointer none, .int .i64 1] w fun e w' => e = .returned (.pointer none) ∧ Below w.heap.size w w' := by
  have c2 := byte_any 1 (by omega) (by omega) w
  rw [if_pos (by omega), decide_eq_true (by omega)] at c2
  have cn := fun W v => put_nil W v
  have HB := hid_ ((Below.refl w.heap.size w).alloc (Nat.le_refl _) (.cells #[.int .u8 1] 5))
  go_enter Try.func14, Try.ntmps14
  go_wp2_with (first
    | (go_at_call 53; refine c2.mono ?_; rintro e w' ⟨rfl, rfl⟩)
    | (go_at_call 51; ((with_reducible refine (cn _ _).mono ?_); rintro e w' ⟨rfl, rfl⟩)))
  go_ret
  exact ⟨rfl, HB.out⟩
set_option maxRecDepth 100000 in
set_option maxHeartbeats 1000000 in
theorem bytes_nil (w : World) : Calls Try.prog 16 #[.pointer none, .slice none 0 0] w fun e w' => e = .returned (.pointer none) ∧ Below w.heap.size w w' := by
  have c1 := putHigh_any 0 4 4 (by omega) (by omega) (by omega) (.inr (.inl ⟨by omega, by omega, rfl⟩)) w
  have cn := fun W v => put_nil W v
  have hw : IntKind.u64.wrap (0 : Int) = 0 := IntWalk.u64_in _ (by omega)
  go_enter Try.func16, Try.ntmps16
  go_wp2_with (first
    | (go_at_call 52; refine c1.mono ?_; rintro e w1 ⟨rfl, hb, hB⟩; have HB := hid_ hB; clear hb hB)
    | (go_at_call 51; ((with_reducible refine (cn _ _).mono ?_); rintro e w' ⟨rfl, rfl⟩)))
  go_ret
  exact ⟨rfl, HB.out⟩
def flatS (l : List PartV) : List UInt8 := (l.map fun p => (partS p).1).flatten
def allS (l : List PartV) : Bool := l.all fun p => (partS p).2
theorem partS_len (p : PartV) : (partS p).1.length ≤ 204 := by
  unfold partS numL smallL
  repeat' split
  all_goals simp [highB_len]
  all_goals omega
theorem flatS_snoc (l : List PartV) (k : Nat) (h : k < l.length) : flatS (l.take (k + 1)) = flatS (l.take k) ++ (partS l[k]).1 := by
  unfold flatS
  rw [List.take_succ_eq_append_getElem h, List.map_append, List.flatten_append]
  simp only [List.map_cons, List.map_nil, List.flatten_cons, List.flatten_nil, List.append_nil]
theorem allS_snoc (l : List PartV) (k : Nat) (h : k < l.length) : allS (l.take (k + 1)) = (allS (l.take k) && (partS l[k]).2) := by
  unfold allS
  rw [List.take_succ_eq_append_getElem h, List.all_append]
  simp only [List.all_cons, List.all_nil, Bool.and_true]
theorem flatS_le (l : List PartV) (k : Nat) : (flatS (l.take k)).length ≤ 204 * k := by
  induction k with
  | zero => simp [flatS]
  | succ k ih =>
    by_cases h : k < l.length
    · rw [flatS_snoc l k h, List.length_append]
      have := partS_len l[k]
      omega
    · rw [List.take_of_length_le (by omega)]
      rw [List.take_of_length_le (by omega)] at ih
      omega
/-- What stands in the loop. -/
def OutS (w : World) (g : Nat) (L : List UInt8) (bad : Bool) (W : World) : Prop := ∃ F, OutF W g L bad F ∧ (∀ k ∈ F, w.heap.size ≤ k) ∧ Below w.heap.size w W
theorem OutS.next {w W W' : World} {g : Nat} {L L' s : List UInt8} {bad bad' ok : Bool} {F : List Nat} {e : Ending} (hO : OutF W g L bad F) (hF : ∀ k ∈ F, w.heap.size ≤ k) (hb : Below w.heap.size w W) (hP : PpP W g L' bad' F s ok e W') : OutS w g L' bad' W' := by
  obtain ⟨_, F', h1, h2, h3⟩ := hP
  refine ⟨F', h1, fun k hk => ?_, hb.trans (h3.below hF hb.size)⟩
  rcases h2 k hk with h4 | h4
  · exact hF k h4
  · have := hb.size
    omega
set_option maxRecDepth 100000 in
set_option maxHeartbeats 4000000 in
theorem walk (w : World) (A : Option Addr) (ls : List PartV) (c : Nat) (hr : RdP w w.heap.size A ls) (hlc : ls.length ≤ c) (hcm : c ≤ 9223372036854775807) :
    Calls Try.prog 3 #[.slice A ls.length c] w fun e w' => e = .returned (.bool true) ∧ Below w.heap.size w w' := by
  have heq : ∀ (g : Nat) (W : World), (binOp .eql 23 (.pointer (some ⟨g, 0, none⟩)) (.pointer (some ⟨g, 0, none⟩))).run Try.prog W = .ok (.bool true) W := fun g W => by
    obtain ⟨j, hj⟩ : ∃ j, Try.prog.info? 33 = some j := Option.isSome_iff_exists.1 (by kernel_rfl)
    exact run_eql_ptr_same (P := Try.prog) W ⟨g, 0, none⟩ Try.underlying23 hj
  have c1 := done_nil w
  have c2 := codes_any w
  have HR := hid_ hr
  clear hr
  go_enter Try.func3, Try.ntmps3
  go_wp2_with (first
    | (go_at_call 11; ((with_reducible refine c1.mono ?_); rintro e w' ⟨rfl, rfl⟩))
    | (go_at_call 12; ((with_reducible refine c2.mono ?_); rintro e w3 ⟨rfl, hb⟩; have X3 := hid_ hb; clear hb; have c3 := num_nil w3))
    | (go_at_call 13; ((with_reducible refine c3.mono ?_); rintro e w4 ⟨rfl, hb⟩; have X4 := hid_ (X3.out.trans (hb.mono X3.out.size)); clear hb; have c4 := small_nil w4))
    | (go_at_call 14; ((with_reducible refine c4.mono ?_); rintro e w5 ⟨rfl, hb⟩; have X5 := hid_ (X4.out.trans (hb.mono X4.out.size)); clear hb))
    | (go_at_call 15; ((with_reducible refine (fixed_nil _ _).mono ?_); rintro e w' ⟨rfl, rfl⟩; have c6 := bytes_nil w5))
    | (go_at_call 16; ((with_reducible refine c6.mono ?_); rintro e w6 ⟨rfl, hb⟩; have X6 := hid_ (X5.out.trans (hb.mono X5.out.size)); clear hb)))
  have S0 : Hid (OutS w w6.heap.size [] false (w6.alloc (.cells #[.pointer none, .int .i64 0, .bool false] 33))) := hid_ ⟨_, OutF.zero w6, fun k hk => by rcases List.mem_singleton.1 hk with rfl; exact X6.out.size, X6.out.alloc X6.out.size _⟩
  generalize w6.heap.size = g at *
  generalize w6.alloc (.cells #[.pointer none, .int .i64 0, .bool false] 33) = w7 at *
  clear c1 c2 c3 c4 c6 X3 X4 X5
  go_loopw [7, 8, 9, 10, 11] (fun want right i _ _ wr => ∃ k : Nat, k ≤ ls.length ∧ k ≤ 20 ∧ i = .int .i64 k ∧ want = .string (strOf (flatS (ls.take k))) ∧ right = .bool (allS (ls.take k)) ∧ Hid (OutS w g (flatS (ls.take k)) (!allS (ls.take k)) wr)) (fun _ _ i _ _ _ => 20 - (intOf i).toNat)
  case atStart => exact ⟨0, Nat.zero_le _, Nat.zero_le _, rfl, rfl, rfl, S0⟩
  case round =>
    obtain ⟨k, hk, hk20, rfl, rfl, rfl, HS⟩ := hrel
    by_cases hk1 : k < ls.length
    · have hd1 : decide ((k : Int) < (ls.length : Int)) = true := decide_eq_true (by omega)
      have hd2 : decide (k < ls.length) = true := decide_eq_true hk1
      by_cases hk2 : k < 20
      · have hd3 : decide ((k : Int) < 20) = true := decide_eq_true (by omega)
        have hd4 : decide (k < 20) = true := decide_eq_true hk2
        obtain ⟨b, off, rfl, hb1, hcell⟩ := HR.out (by omega)
        obtain ⟨e0, e1, e2, hok⟩ := hcell k hk1
        obtain ⟨F, hO, hF, hB⟩ := HS.out
        have f0 := (hB.cell (p := ⟨b, off + 3 * k, none⟩) hb1).trans e0
        have f1 := (hB.cell (p := ⟨b, off + 3 * k + 1, none⟩) hb1).trans e1
        have f2 := (hB.cell (p := ⟨b, off + 3 * k + 2, none⟩) hb1).trans e2
        rw [Nat.mul_comm] at f0 f1 f2
        have hfl := flatS_snoc ls k hk1
        have hal := allS_snoc ls k hk1
        have hle := flatS_le ls k
        have hpl := partS_len ls[k]
        have hok2 := (hok.below hB).more hB.size
        clear e0 e1 e2 hcell hok
        generalize ls[k] = p at *
        have cp0 := ppart_any wr g (flatS (ls.take k)) (!allS (ls.take k)) F p hok2 hO (by omega)
        have HNX := hid_ (fun (e : Ending) (W : World) (h : PpP wr g (flatS (ls.take k) ++ (partS p).1) (!allS (ls.take k) || !(partS p).2) F (partS p).1 (partS p).2 e W) => OutS.next hO hF hB h)
        have HFL := hid_ hfl
        have HAL := hid_ hal
        have hap := strOf_append (flatS (ls.take k)) (partS p).1
        have hsz : (strOf (flatS (ls.take k))).size + (strOf (partS p).1).size ≤ 9223372036854775807 := by rw [strOf_size, strOf_size]; omega
        generalize flatS (ls.take k) = L at *
        generalize (partS p).1 = s at *
        generalize (partS p).2 = ok at *
        unfold PartV.agg at cp0
        generalize p.kind = zk at *
        generalize p.num = zn at *
        generalize p.at_ = zA at *
        generalize p.cap = zc at *
        generalize p.text.length = zl at *
        have t0 : (0 : Int) ≤ (k : Int) := by omega
        have t1 : (k : Int) < (ls.length : Int) := by omega
        have HD1 := hid_ hd1
        clear hO hF hB HS S0 hfl hal hle hpl hok2
        cases hR : allS (ls.take k)
        all_goals
          rw [hR] at cp0 HNX HAL
          go_wp2_with (first
            | (go_at_call 17; ((with_reducible refine cp0.mono ?_); intro e w8 hP; have hN := HNX.out _ _ hP; have he := hP.1; subst he; have HN := hid_ hN; clear hP hN)))
          go_roundw
          case rel => exact ⟨k + 1, by omega, by omega, by go_num, by rw [HFL.out], by rw [HAL.out]; simp, hid_ (by rw [HFL.out, HAL.out]; simpa using HN.out)⟩
          case measure => simp [intOf]; omega
      · have hd3 : decide ((k : Int) < 20) = false := decide_eq_false (by omega)
        have hd4 : decide (k < 20) = false := decide_eq_false hk2
        obtain ⟨F, hO, hF, hB⟩ := HS.out
        have hn20 := flatS_le ls k
        generalize flatS (ls.take k) = L at *
        obtain ⟨n, hn⟩ : ∃ n, L.length = n := ⟨_, rfl⟩
        have hnb : n ≤ 140737488355328 := by omega
        have HN := hid_ hn
        have hl8 : Hid (L.length + 8 ≤ 140737488355328) := hid_ (by omega)
        clear hn20 hn
        cases hR : allS (ls.take k)
        all_goals
          rw [hR] at hO
          have HO := hid_ hO
          have HB := hid_ hB
          clear hO hB HS S0 hR
          have cd := done_any wr g n L _ F HO.out HN.out hnb
          go_wp2_with (first
            | (go_at_call 11; ((with_reducible refine cd.mono ?_); rintro e w8 ⟨A8, c8, rfl, hO8, hB8⟩; have cv := conv_strn hO8.rd.1 n c8 HN.out; have HO8 := hid_ (HO.out.below hB8); have HB8 := hid_ (HB.out.trans (hB8.mono HB.out.size)); clear hO8 hB8; have hq := strOf_eq L L rfl; have c9 : Calls Try.prog 13 #[.pointer (some ⟨g, 0, none⟩), .int .i64 1] w8 (OutP w8 g (L ++ highB 8 1) _ F) := num_any w8 g L _ F 1 HO8.out (by omega) hl8.out))
            | (go_at_call 13; ((with_reducible refine c9.mono ?_); rintro e w9 ⟨rfl, F9, h1, h2, h3⟩; have HB9 := hid_ (HB8.out.trans (h3.below hF HB8.out.size)); clear h1 h2 h3)))
          go_ret
          exact ⟨rfl, HB9.out⟩

    · have hd1 : decide ((k : Int) < (ls.length : Int)) = false := decide_eq_false (by omega)
      have hd2 : decide (k < ls.length) = false := decide_eq_false hk1
      obtain ⟨F, hO, hF, hB⟩ := HS.out
      have hn20 := flatS_le ls k
      generalize flatS (ls.take k) = L at *
      obtain ⟨n, hn⟩ : ∃ n, L.length = n := ⟨_, rfl⟩
      have hnb : n ≤ 140737488355328 := by omega
      have HN := hid_ hn
      have hl8 : Hid (L.length + 8 ≤ 140737488355328) := hid_ (by omega)
      clear hn20 hn
      cases hR : allS (ls.take k)
      all_goals
        rw [hR] at hO
        have HO := hid_ hO
        have HB := hid_ hB
        clear hO hB HS S0 hR
        have cd := done_any wr g n L _ F HO.out HN.out hnb
        go_wp2_with (first
          | (go_at_call 11; ((with_reducible refine cd.mono ?_); rintro e w8 ⟨A8, c8, rfl, hO8, hB8⟩; have cv := conv_strn hO8.rd.1 n c8 HN.out; have HO8 := hid_ (HO.out.below hB8); have HB8 := hid_ (HB.out.trans (hB8.mono HB.out.size)); clear hO8 hB8; have hq := strOf_eq L L rfl; have c9 : Calls Try.prog 13 #[.pointer (some ⟨g, 0, none⟩), .int .i64 1] w8 (OutP w8 g (L ++ highB 8 1) _ F) := num_any w8 g L _ F 1 HO8.out (by omega) hl8.out))
          | (go_at_call 13; ((with_reducible refine c9.mono ?_); rintro e w9 ⟨rfl, F9, h1, h2, h3⟩; have HB9 := hid_ (HB8.out.trans (h3.below hF HB8.out.size)); clear h1 h2 h3)))
        go_ret
        exact ⟨rfl, HB9.out⟩


set_option maxRecDepth 100000 in
theorem lifted (os : Os) (started : os.Started) (H : Type) (enc : TypeId × Value → H) :
    ReturnsInHanded {} Try.checked os 3 .any (Rows.codecPutsSpec.pre6 enc Try.prog Try.f3 Rows.codecPutsRow.domain false) (Rows.codecPutsSpec.post enc Try.prog Try.f3 false true false false) := by
  refine returnsInHanded_of_change (C := Try.checked) own_ started (by kernel_rfl) Try.func3
    (ChangeSpec.witness6 (enc := enc) (C := Try.checked) false ⟨#[], #[.slice none 0 0], []⟩ 8 (by kernel_rfl) (by kernel_rfl) (by kernel_rfl) (by kernel_rfl)) ?_
  intro W base args ds gs before hval0 hW hcnd _
  have hval : ∀ (j : Nat) t v, Try.f3.params[j]? = some t → args[j]? = some v → Value.okWide Try.prog W .any base t v := hval0
  have hW' := hW
  obtain ⟨p, q, hA0, hV, rfl, hfz, hnd⟩ := hW
  have hA : DataW.TrodAll enc Try.prog W 0 (fun _ => true) true Try.f3.params.toList args.toList ds p := hA0
  rw [Try.params3] at hA hval
  obtain ⟨v0, vs0, d0, ds0, p0, q0, hargs, rfl, rfl, h0, r0⟩ := trodAll_cons hA
  obtain ⟨rfl, rfl, rfl⟩ := trodAll_nil r0
  obtain rfl : args = #[v0] := by cases args; simp_all
  obtain ⟨rfl, rfl⟩ := trodVars_none hV
  obtain ⟨A0, l0, c0, rfl, hr0, hlc0, hcm0⟩ := open_pparts Try.underlying22 Try.underlying36 ⟨rfl, rfl⟩ ⟨rfl, rfl⟩ ⟨rfl, rfl⟩ Try.underlying3 (by kernel_rfl) Try.underlying24 (by kernel_rfl) Try.underlying5 (by kernel_rfl) (by kernel_rfl) (hval 0 22 v0 rfl rfl) h0
  refine (walk W A0 l0 c0 hr0 hlc0 (by unfold maxLen at hcm0; omega)).mono fun e W' ⟨he, hg⟩ => ⟨_, he, ?_⟩
  exact law_post laidOut_ (of_decide_eq_true (by kernel_rfl)) rfl rfl Try.underlying4 rfl hW' hg

theorem over : Rows.codecPutsRow.holds Try.pinned (OpenSpec.ofChange Rows.codecPutsSpec) :=
  OpenClaim.holds_of_wide 3 Try.f3 rfl rfl rfl rfl rfl rfl rfl ⟨rfl, rfl, rfl, rfl, rfl⟩ rfl rfl rfl rfl rfl (by kernel_rfl) Try.func3 (by kernel_rfl)
    (of_decide_eq_true (by kernel_rfl)) (by unfold Func.isWrapper; first | (rw [if_pos (by decide +kernel)]; kernel_rfl) | (rw [if_neg (by decide +kernel)]; exact ⟨rfl, rfl⟩))
    (fun os started H enc _ => lifted os started H enc)

theorem proved : Rows.CodecPutsSaid := over
#print axioms proved
end Go.Proofs.Ytjfidfcfhdkciaa.codecPuts
