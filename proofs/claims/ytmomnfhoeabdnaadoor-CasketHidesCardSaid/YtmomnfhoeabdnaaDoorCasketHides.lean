/-
  Proved: for all notes and bytes CasketHides answers true: with an ideal vault notes whose names are the same where others' are, and whose values are of the same classes, have the same envelopes, byte by byte. No condition.
-/
import Derived.Test.YtmomnfhoeabdnaaDoorXX
import Derived.Test.YtmomnfhoeabdnaaDoorYJ
namespace Go.Proofs.YtmomnfhoeabdnaaDoor.casketHides
set_option maxRecDepth 100000
open Go.ChangeShapes Go.WideShapes Go.ChangeAt Go.RowKit
set_option linter.unusedVariables false
set_option linter.unusedSimpArgs false

theorem hid_ {p : Prop} (h : p) : Hid p := h
theorem u8_u64 (u : UInt8) : IntKind.u64.wrap ((u.toNat : Nat) : Int) = ((u.toNat : Nat) : Int) := IntWalk.u64_in _ (by have := u.toNat_lt; omega)
def CuN (b off j n1 c1 : Nat) (q : NoteV) : Nat → Value → World → Prop
  | 0, u, _ => u = .slice (some ⟨b, off, none⟩) n1 c1
  | 1, u, _ => u = .int .i64 (j : Int)
  | 2, u, _ => u = .pointer (some ⟨b, off + j * 3, none⟩)
  | 3, u, _ => u = .pointer (some ⟨b, off + j * 3, none⟩)
  | 4, u, _ => u = .slice q.na q.nl.length q.nc
  | 6, u, _ => u = .slice (some ⟨b, off, none⟩) n1 c1
  | 7, u, _ => u = .int .i64 (j : Int)
  | 8, u, _ => u = .pointer (some ⟨b, off + j * 3, none⟩)
  | 9, u, _ => u = .pointer (some ⟨b, off + j * 3, none⟩)
  | 10, u, _ => u = .slice q.na q.nl.length q.nc
  | _, _, _ => True
theorem CuN.any {b off j n1 c1 : Nat} {q : NoteV} {i : Nat} {v : Value} {W W' : World} (h : CuN b off j n1 c1 q i v W) : CuN b off j n1 c1 q i v W' := by
  unfold CuN at h ⊢
  split at h <;> first | exact h | trivial

set_option maxRecDepth 100000 in
set_option maxHeartbeats 16000000 in
theorem walk (w : World) (A1 : Option Addr) (n1 c1 : Nat) (l : List NoteV) (hn : l.length = n1) (hp : RdNt w w.heap.size A1 l) (hn9 : n1 ≤ 9223372036854775807) (u : UInt8) (ht : Tab w) (hg1 : 0 < w.heap.size) (hpt : PTab w) (hg2 : 1 < w.heap.size) :
    Calls Tryd.prog 3 #[.slice A1 n1 c1, .int .u8 ((u.toNat : Nat) : Int)] w fun e w' => e = .returned (.bool true) ∧ Below w.heap.size w w' := by
  have HT := hid_ ht
  have HPT := hid_ hpt
  have HP := hid_ hp
  have HN := hid_ hn
  have KL : K1.length = 32 := rfl
  have ci := ideal_new w K1 KL
  have ci2 := fun W => ideal_new W K1 KL
  have HKB := hid_ (show K1 = 1 :: zbytes 31 from rfl)
  have hzE := zeroE
  have hzH := zeroH
  generalize K1 = K at *
  clear ht hpt KL hp hn
  go_enter Tryd.func3, Tryd.ntmps3
  go_upto_region 2 with (first
    | (refine wpList_built rfl 25 _ rfl (rowOf K) (by rw [HKB.out]; kernel_rfl) ?_)
    | (go_at_call 4; ((with_reducible refine ci.mono ?_); clear ci; rintro e w1 ⟨va, spa, nma, kna, Fa, rfl, hv, hF, hb⟩; have M1 := hid_ (show MineX w true va spa nma kna K [] [] Fa w1 from ⟨hv, hF, hb⟩); have ci3 := ci2 w1; clear ci2 hv hF hb))
    | (go_at_call 4; ((with_reducible refine ci3.mono ?_); clear ci3; rintro e w2 ⟨vb, spb, nmb, knb, Fb, rfl, hv, hF, hb⟩; have T2 := hid_ (show TwoM w va spa nma kna vb spb nmb knb K u [] [] [] Fa Fb w2 from ⟨M1.out.then_ hb, ⟨hv, fun k hk => Nat.le_trans M1.out.below.size (hF k hk), M1.out.below.trans (hb.mono M1.out.below.size)⟩, fun k hk hm => by have h1 := M1.out.lt k hk; have h2 := hF k hm; omega⟩); clear hv hF hb)))
  clear M1
  have cs := stands_any w2 (T2.out.a.tab HT.out hg1) (T2.out.a.glt hg1)
  go_upto_region 4 with (go_at_call 5; ((with_reducible refine cs.mono ?_); clear cs; rintro r w3 ⟨rfl, hb⟩; have T3 := hid_ (T2.out.then_ hb); clear hb T2))
  go_upto_region 5 with fail
  obtain ⟨M, hM⟩ : ∃ M, M = min n1 10 := ⟨_, rfl⟩
  go_loopw [7] (fun i wr => ∃ (j : Nat) (N : List (List UInt8)) (La Lb : List SealV) (Fa1 Fb1 : List Nat), j ≤ M ∧ i = .int .i64 j ∧ Hid (TwoM w va spa nma kna vb spb nmb knb K u N La Lb Fa1 Fb1 wr) ∧ Hid (NumsTo j N La Lb)) (fun i _ => M - (intOf i).toNat)
  case atStart => exact ⟨0, [], [], [], Fa, Fb, Nat.zero_le _, rfl, T3, hid_ ⟨rfl, fun p hp => by simp at hp, Nat.le_refl _, Nat.le_refl _⟩⟩
  case round =>
    obtain ⟨j, N, La, Lb, Fa1, Fb1, hj, rfl, HT2, HNM⟩ := hrel
    clear T3
    by_cases hlt : j < M
    · have hd1 : decide ((j : Int) < (n1 : Int)) = true := decide_eq_true (by omega)
      have hd2 : decide ((j : Int) < 10) = true := decide_eq_true (by omega)
      have hd3 : decide (j < n1) = true := decide_eq_true (by omega)
      have hd4 : decide (j < 10) = true := decide_eq_true (by omega)
      have j10 : j < 10 := by omega
      obtain ⟨b, off, rfl, hbl, hrow⟩ := HP.out (by rw [HN.out]; omega)
      obtain ⟨hc8, hok⟩ := hrow j (by rw [HN.out]; omega)
      generalize l[j]'(by rw [HN.out]; omega) = q at *
      have HROW : Hid (∀ W, Below w.heap.size w W → W.cell? ⟨b, off + j * 3, none⟩ = some (.slice q.na q.nl.length q.nc) ∧ W.cell? ⟨b, off + j * 3 + 1, none⟩ = some (.slice q.va q.vl.length q.vc) ∧ W.cell? ⟨b, off + j * 3 + 2, none⟩ = some (.bool q.del)) := hid_ (fun W hW => ⟨(hW.cell (p := ⟨b, off + j * 3, none⟩) hbl).trans (hc8 0 (by omega)), (hW.cell (p := ⟨b, off + j * 3 + 1, none⟩) hbl).trans (hc8 1 (by omega)), (hW.cell (p := ⟨b, off + j * 3 + 2, none⟩) hbl).trans (hc8 2 (by omega))⟩)
      have HOK := hid_ hok
      have HBL := hid_ hbl
      have t0 : (0 : Int) ≤ (j : Int) := by omega
      have tn : (j : Int) < (n1 : Int) := by omega
      have HLT := hid_ hlt
      clear hrow hok hlt hc8 hbl
      obtain ⟨wR, hwR⟩ : ∃ x, x = wr := ⟨_, rfl⟩
      subst hwR
      go_upto_region 7 with fail
      rename_i K9 hK9
      obtain ⟨mn, hmn⟩ : ∃ m, m = min q.nl.length 40 := ⟨_, rfl⟩
      have MN := hid_ hmn
      have YL0 := hid_ (show (q.nl.take 40).length = mn by rw [List.length_take, hmn, Nat.min_comm])
      have mn40 : mn ≤ 40 := by omega
      clear hmn hd1 hd2 hd3 hd4
      refine region_byJF [38, 39, 40, 41, 42, 43, 44, 45, 46, 47, 48, 49, 8, 9] (fun W => Below wR.heap.size wR W) (fun _ _ => True) (CuN b off j n1 c1 q) (fun D a W => JT 5 11 12 13 43 49 8 9 (OW1 wR.heap.size mn (q.nl.take 40)) (OW2 wR.heap.size mn (q.nl.take 40)) D a W) (by kernel_rfl) (by kernel_rfl) (by kernel_rfl) (by kernel_rfl) (fun j v w w' hT hr => hr.any) (fun j v w hlt hj _ => ?_) ((Below.refl _ _).drew) ?_ (JT.start _) ?_
      · rcases j with _ | _ | _ | _ | _ | _ | _ | _ | _ | _ | _ | _ | _ | _ | j
        all_goals first
          | (exfalso; simp [dstOf] at hj; done)
          | trivial
      · refine ⟨fun D a W hC hd hsz hf hv hJ hL hW K hK => ?_, fun D a W hC hd hsz hf hv hJ hL hW K hK => ?_, fun D a W hC hd hsz hf hv hJ hL hW K hK => ?_, fun D a W hC hd hsz hf hv hJ hL hW K hK => ?_, fun D a W hC hd hsz hf hv hJ hL hW K hK => ?_, fun D a W hC hd hsz hf hv hJ hL hW K hK => ?_, fun D a W hC hd hsz hf hv hJ hL hW K hK => ?_, fun D a W hC hd hsz hf hv hJ hL hW K hK => ?_, fun D a W hC hd hsz hf hv hJ hL hW K hK => ?_, fun D a W hC hd hsz hf hv hJ hL hW K hK => ?_, fun D a W hC hd hsz hf hv hJ hL hW K hK => ?_, fun D a W hC hd hsz hf hv hJ hL hW K hK => ?_, fun D a W hC hd hsz hf hv hJ hL hW K hK => ?_, fun D a W hC hd hsz hf hv hJ hL hW K hK => ?_, trivial⟩
        · have HSZ := hid_ hsz
          clear hsz
          have e1 := slot_of (a := a) (s := 0) (v := .slice (some ⟨b, off, none⟩) n1 c1) (hf 0 (by kernel_rfl))
          refine step_run (wanted_none rfl) (v := .slice (some ⟨b, off, none⟩) n1 c1) (w' := W) ?_ (hK _ _ hC trivial rfl (hJ.other 0 38 _ (by decide) (by decide)))
          go_simp
        · have HSZ := hid_ hsz
          clear hsz
          have e1 := slot_of (a := a) (s := 7) (v := .int .i64 (j : Int)) (hf 7 (by kernel_rfl))
          refine step_run (wanted_none rfl) (v := .int .i64 (j : Int)) (w' := W) ?_ (hK _ _ hC trivial rfl (hJ.other 1 39 _ (by decide) (by decide)))
          go_simp
        · have HSZ := hid_ hsz
          clear hsz
          have e1 := slot_of (a := a) (s := 38) (v := .slice (some ⟨b, off, none⟩) n1 c1) (hv 0 (by kernel_rfl))
          have e2 := slot_of (a := a) (s := 39) (v := .int .i64 (j : Int)) (hv 1 (by kernel_rfl))
          refine step_run (wanted_none rfl) (v := .pointer (some ⟨b, off + j * 3, none⟩)) (w' := W) ?_ (hK _ _ hC trivial rfl (hJ.other 2 40 _ (by decide) (by decide)))
          go_simp
        · have HSZ := hid_ hsz
          clear hsz
          have e1 := slot_of (a := a) (s := 40) (v := .pointer (some ⟨b, off + j * 3, none⟩)) (hv 2 (by kernel_rfl))
          refine step_run (wanted_none rfl) (v := .pointer (some ⟨b, off + j * 3, none⟩)) (w' := W) ?_ (hK _ _ hC trivial rfl (hJ.other 3 41 _ (by decide) (by decide)))
          go_simp
        · have HSZ := hid_ hsz
          clear hsz
          have e1 := slot_of (a := a) (s := 41) (v := .pointer (some ⟨b, off + j * 3, none⟩)) (hv 3 (by kernel_rfl))
          have cc := (HROW.out W (HT2.out.a.below.trans (hC.mono HT2.out.a.below.size))).1
          refine step_run (wanted_none rfl) (v := .slice q.na q.nl.length q.nc) (w' := W) ?_ (hK _ _ hC trivial rfl (hJ.other 4 42 _ (by decide) (by decide)))
          go_simp
        · have HSZ := hid_ hsz
          clear hsz
          have e1 := slot_of (a := a) (s := 42) (v := .slice q.na q.nl.length q.nc) (hv 4 (by kernel_rfl))
          have X := HT2.out.a.below.trans (hC.mono HT2.out.a.below.size)
          have cc : Calls Tryd.prog 6 #[.slice q.na q.nl.length q.nc, .int .i64 40] W (NewP W mn (q.nl.take 40)) := topcut_any W q.na q.nl q.nl.length _ 40 mn rfl MN.out (by omega) ((HOK.out.rn.below X).more X.size) HOK.out.hn.1 HOK.out.hn.2
          refine step_callx 6 #[.slice q.na q.nl.length q.nc, .int .i64 40] (wanted_none rfl) (w' := W) ?_ (cc.mono fun e W2 hh => ?_)
          · go_simp
          · obtain ⟨A, d, rfl, ho, hb⟩ := hh
            exact ⟨_, rfl, hK _ _ (hC.trans (hb.mono hC.size)) trivial trivial (hJ.first _ hL (by decide) (by rw [HSZ.out]; exact of_decide_eq_true (by kernel_rfl)) ⟨A, d, rfl, ho.lower hC.size⟩)⟩
        · have HSZ := hid_ hsz
          clear hsz
          have e1 := slot_of (a := a) (s := 0) (v := .slice (some ⟨b, off, none⟩) n1 c1) (hf 0 (by kernel_rfl))
          refine step_run (wanted_none rfl) (v := .slice (some ⟨b, off, none⟩) n1 c1) (w' := W) ?_ (hK _ _ hC trivial rfl (hJ.other 6 44 _ (by decide) (by decide)))
          go_simp
        · have HSZ := hid_ hsz
          clear hsz
          have e1 := slot_of (a := a) (s := 7) (v := .int .i64 (j : Int)) (hf 7 (by kernel_rfl))
          refine step_run (wanted_none rfl) (v := .int .i64 (j : Int)) (w' := W) ?_ (hK _ _ hC trivial rfl (hJ.other 7 45 _ (by decide) (by decide)))
          go_simp
        · have HSZ := hid_ hsz
          clear hsz
          have e1 := slot_of (a := a) (s := 44) (v := .slice (some ⟨b, off, none⟩) n1 c1) (hv 6 (by kernel_rfl))
          have e2 := slot_of (a := a) (s := 45) (v := .int .i64 (j : Int)) (hv 7 (by kernel_rfl))
          refine step_run (wanted_none rfl) (v := .pointer (some ⟨b, off + j * 3, none⟩)) (w' := W) ?_ (hK _ _ hC trivial rfl (hJ.other 8 46 _ (by decide) (by decide)))
          go_simp
        · have HSZ := hid_ hsz
          clear hsz
          have e1 := slot_of (a := a) (s := 46) (v := .pointer (some ⟨b, off + j * 3, none⟩)) (hv 8 (by kernel_rfl))
          refine step_run (wanted_none rfl) (v := .pointer (some ⟨b, off + j * 3, none⟩)) (w' := W) ?_ (hK _ _ hC trivial rfl (hJ.other 9 47 _ (by decide) (by decide)))
          go_simp
        · have HSZ := hid_ hsz
          clear hsz
          have e1 := slot_of (a := a) (s := 47) (v := .pointer (some ⟨b, off + j * 3, none⟩)) (hv 9 (by kernel_rfl))
          have cc := (HROW.out W (HT2.out.a.below.trans (hC.mono HT2.out.a.below.size))).1
          refine step_run (wanted_none rfl) (v := .slice q.na q.nl.length q.nc) (w' := W) ?_ (hK _ _ hC trivial rfl (hJ.other 10 48 _ (by decide) (by decide)))
          go_simp
        · have HSZ := hid_ hsz
          clear hsz
          have e1 := slot_of (a := a) (s := 48) (v := .slice q.na q.nl.length q.nc) (hv 10 (by kernel_rfl))
          have X := HT2.out.a.below.trans (hC.mono HT2.out.a.below.size)
          have cc : Calls Tryd.prog 6 #[.slice q.na q.nl.length q.nc, .int .i64 40] W (NewP W mn (q.nl.take 40)) := topcut_any W q.na q.nl q.nl.length _ 40 mn rfl MN.out (by omega) ((HOK.out.rn.below X).more X.size) HOK.out.hn.1 HOK.out.hn.2
          refine step_callx 6 #[.slice q.na q.nl.length q.nc, .int .i64 40] (wanted_none rfl) (w' := W) ?_ (cc.mono fun e W2 hh => ?_)
          · go_simp
          · obtain ⟨A, d, rfl, ho, hb⟩ := hh
            exact ⟨_, rfl, hK _ _ (hC.trans (hb.mono hC.size)) trivial trivial (hJ.second _ hL (hW 5 (by kernel_rfl)) (by decide) (by decide) (by rw [HSZ.out]; exact of_decide_eq_true (by kernel_rfl)) (fun h1 => OW2.of h1 hb ⟨A, d, rfl, ho⟩ hC.size))⟩
        · have HSZ := hid_ hsz
          clear hsz
          obtain ⟨uu, hu⟩ : ∃ u, a.tmps.getD 43 undef = u := ⟨_, rfl⟩
          have e1 := slot_of (a := a) (s := 43) (v := uu) hu
          refine step_run (wanted_none rfl) (v := uu) (w' := W) ?_ (hK _ _ hC trivial trivial (by rw [← hu]; exact hJ.third (hW 11 (by kernel_rfl)) (by decide) (by decide) (by rw [HSZ.out]; exact of_decide_eq_true (by kernel_rfl))))
          clear hu
          go_simp
        · have HSZ := hid_ hsz
          clear hsz
          obtain ⟨uu, hu⟩ : ∃ u, a.tmps.getD 49 undef = u := ⟨_, rfl⟩
          have e1 := slot_of (a := a) (s := 49) (v := uu) hu
          refine step_run (wanted_none rfl) (v := uu) (w' := W) ?_ (hK _ _ hC trivial trivial (by rw [← hu]; exact hJ.fourth (hW 11 (by kernel_rfl)) (by decide) (by decide) (by rw [HSZ.out]; exact of_decide_eq_true (by kernel_rfl))))
          clear hu
          go_simp
      · intro f w5 hC5 hv5 D7 hD7 hJ7
        obtain ⟨a7, hJ, hs⟩ := hJ7
        have h2 := hJ.both (hD7 11 (by decide))
        have e7 := (hJ.e1 (hD7 12 (by decide))).2
        have e8 := (hJ.e2 (hD7 13 (by decide))).2
        rw [hs, hs] at h2 e7 e8
        obtain ⟨A8, c8, A9, c9, h44, ho8, h47, ho9, hdi⟩ := h2
        have f7 := e7.trans h44
        have f8 := e8.trans h47
        simp only [framed, List.foldl_cons, List.foldl_nil, List.setIfInBounds_toArray, List.set_cons_succ, List.set_cons_zero]
        rw [f7, f8]
        have O8 := hid_ ho8
        have O9 := hid_ ho9
        have DIS := hid_ hdi
        have T5 := hid_ (HT2.out.then_ hC5)
        have HF2 := hid_ (show (∀ k ∈ Fa1, k < wR.heap.size) ∧ ∀ k ∈ Fb1, k < wR.heap.size from ⟨HT2.out.a.lt, HT2.out.b.lt⟩)
        have S5 := hid_ (show w.heap.size ≤ wR.heap.size ∧ wR.heap.size ≤ w5.heap.size from ⟨HT2.out.a.below.size, hC5.size⟩)
        clear hv5 hD7 hJ hs e7 e8 h44 h47 ho8 ho9 hdi f7 f8 hC5 HT2
        refine hK9 _ _ ?_
        clear hK9 K9
        have YL := YL0
        generalize q.nl.take 40 = Y at *
        go_upto_region 9 with fail
        go_loopw [10] (fun i wq => ∃ a : Nat, a ≤ mn ∧ i = .int .i64 a ∧ Hid (Untouched (blkOf A9) w5 wq) ∧ Hid (Own8 wq wR.heap.size (.slice A9 mn c9) (xorU u (Y.take a) ++ Y.drop a))) (fun i _ => mn - (intOf i).toNat)
        case atStart => exact ⟨0, Nat.zero_le _, rfl, hid_ (Untouched.refl _ _), hid_ (by simpa [xorU] using O9.out)⟩
        case round =>
          obtain ⟨a, ha, rfl, HQ, HO⟩ := hrel
          by_cases hlt2 : a < mn
          · have he1 : decide ((a : Int) < (mn : Int)) = true := decide_eq_true (by omega)
            have he2 : decide (a < mn) = true := decide_eq_true hlt2
            obtain ⟨g5, hA⟩ := HO.out.block_ (by omega)
            subst hA
            obtain ⟨y, hy⟩ : ∃ y, Y.getD a 0 = y := ⟨_, rfl⟩
            have hcz := HO.out.cellz a hlt2
            rw [xorU_get u Y a (by rw [YL.out]; exact hlt2), hy] at hcz
            have hfz := HO.out.frozenz a
            have hx1 := xor8 y u
            have hyb := y.toNat_lt
            obtain ⟨hput, hge⟩ := HO.out.put_ a (y ^^^ u)
            rw [← hy, xorU_step u Y a (by rw [YL.out]; exact hlt2), hy] at hput
            have HPUT := hid_ hput
            have HW := hid_ (HQ.out.trans (Grew.refl _ _) (Untouched.set (w := wr) (F := blkOf (some ⟨g5, 0, none⟩)) g5 a (by simp [blkOf]) (.int .u8 ((y ^^^ u).toNat : Int))))
            have t1 : (0 : Int) ≤ (a : Int) := by omega
            have t2 : (a : Int) < (mn : Int) := by omega
            clear hput hy
            go_wp2
            go_roundw
            case rel => exact ⟨a + 1, by omega, by go_num, HW, HPUT⟩
            case measure => simp [intOf]; omega
          · obtain rfl : mn = a := by omega
            have he1 : decide ((mn : Int) < (mn : Int)) = false := decide_eq_false (by omega)
            have he2 : decide (mn < mn) = false := decide_eq_false hlt2
            have O96 := hid_ (show Own8 wr wR.heap.size (.slice A9 mn c9) (xorU u Y) by have h := HO.out; rw [List.take_of_length_le (by rw [YL.out]; exact Nat.le_refl _), List.drop_eq_nil_of_le (by rw [YL.out]; exact Nat.le_refl _), List.append_nil] at h; exact h)
            have HBK : Hid (∀ k ∈ blkOf A9, wR.heap.size ≤ k) := hid_ (fun k hk => by
              simp only [blkOf, Option.mem_toList, Option.map_eq_some_iff] at hk
              obtain ⟨a2, rfl, rfl⟩ := hk
              exact (World.ownsRow.lt O96.out _ rfl).1)
            have X6 := hid_ (show Below w.heap.size w wr from T5.out.a.below.trans (HQ.out.below (fun k hk => Nat.le_trans S5.out.1 (HBK.out k hk)) T5.out.a.below.size))
            have T6 := hid_ (show TwoM w va spa nma kna vb spb nmb knb K u N La Lb Fa1 Fb1 wr from ⟨T5.out.a.other HQ.out (fun k hk hm => by have h1 := HBK.out k hk; have h2 := HF2.out.1 k hm; omega) X6.out, T5.out.b.other HQ.out (fun k hk hm => by have h1 := HBK.out k hk; have h2 := HF2.out.2 k hm; omega) X6.out, T5.out.dis⟩)
            have O86 := hid_ (show Own8 wr wR.heap.size (.slice A8 mn c8) Y from ownsRow_heapy O8.out (fun k hk => HQ.out.block k (World.ownsRow.lt O8.out k hk).2 (fun hm => by
              obtain ⟨a1, ea, eb⟩ := ownBlock_some hk
              simp only [blkOf, Option.mem_toList, Option.map_eq_some_iff] at hm
              obtain ⟨a2, ea2, eb2⟩ := hm
              exact DIS.out a1 a2 ea ea2 (by omega))))
            have YX := hid_ (show (xorU u Y).length = mn by rw [xorU_len, YL.out])
            have S56 := hid_ HQ.out.size
            clear O8 O9 HO HQ T5 he1 he2 hlt2 HBK DIS
            obtain ⟨w6, hw6⟩ : ∃ x, x = wr := ⟨_, rfl⟩
            subst hw6
            -- the value, and the other one
            obtain ⟨ma, hma⟩ : ∃ m, m = min q.vl.length 59 := ⟨_, rfl⟩
            have ZL := hid_ (show (q.vl.take 59).length = ma by rw [List.length_take, hma, Nat.min_comm])
            have ma59 : ma ≤ 59 := by omega
            have c1x := (HROW.out w6 X6.out).2.1
            have cc : Calls Tryd.prog 6 #[.slice q.va q.vl.length q.vc, .int .i64 59] w6 (NewP w6 ma (q.vl.take 59)) := topcut_any w6 q.va q.vl q.vl.length _ 59 ma rfl hma (by omega) ((HOK.out.rv.below X6.out).more X6.out.size) HOK.out.hv.1 HOK.out.hv.2
            generalize q.vl.take 59 = Z at *
            clear hma
            go_upto_region 13 with (go_at_call 6; ((with_reducible refine cc.mono ?_); clear cc; rintro e w7 ⟨A11, c11, rfl, hO, hB⟩; have T7 := hid_ (T6.out.then_ hB); have O87 := hid_ (O86.out.below hB (Nat.le_refl _)); have O97 := hid_ (O96.out.below hB (Nat.le_refl _)); have B67 := hid_ hB.size; have O117 := hid_ (hO.lower (Nat.le_trans S5.out.2 S56.out)); clear hO hB))
            clear c1x T6 O86 O96
            have W7 := hid_ (show w.heap.size ≤ w7.heap.size ∧ wR.heap.size ≤ w7.heap.size from ⟨T7.out.a.below.size, by have h1 := (World.ownsRow.lt O87.out); have := S5.out.2; have := S56.out; have := T7.out.a.below.size; have h2 := B67.out; omega⟩)
            -- another value of its length's making
            have uu := u8_u64 u
            have ub := u.toNat_lt
            obtain ⟨ma1, hma1⟩ : ∃ x : Nat, (ma : Int) + 1 = (x : Int) := ⟨ma + 1, by omega⟩
            have MA1 := hid_ (show ma1 ≤ 60 by omega)
            have wm1 : IntKind.i64.wrap (ma1 : Int) = (ma1 : Int) := IntWalk.i64_in _ (by have := MA1.out; omega)
            have wm2 : IntKind.u64.wrap (ma1 : Int) = (ma1 : Int) := IntWalk.u64_in _ (by have := MA1.out; omega)
            obtain ⟨pr, hpr⟩ : ∃ p : Nat, ((u.toNat : Nat) : Int) * (ma1 : Int) = (p : Int) := ⟨u.toNat * ma1, by simp⟩
            have hpb : pr ≤ 15300 := by
              have h1 : u.toNat * ma1 ≤ 255 * 60 := Nat.mul_le_mul (by omega) MA1.out
              have h2 : pr = u.toNat * ma1 := by have h3 := hpr; rw [← Int.natCast_mul] at h3; omega
              omega
            have wpr : IntKind.u64.wrap (pr : Int) = (pr : Int) := IntWalk.u64_in _ (by omega)
            obtain ⟨r, tr', rr', wur, wir, hr60⟩ := restU pr 60 (by omega) (by omega)
            have tr : (pr : Int).tmod 60 = (r : Int) := tr'
            have rr : (pr : Int) % 60 = (r : Int) := rr'
            have hmk := mk8 r (by omega) w7
            obtain ⟨w8, hw8⟩ : ∃ W, w7.alloc (.cells (rowOf (List.replicate r 0)) 5) = W := ⟨_, rfl⟩
            have b78 : Below w7.heap.size w7 w8 := by rw [← hw8]; exact (Below.refl _ _).alloc (Nat.le_refl _) _
            have O12 := hid_ (show Own8 w8 w7.heap.size (.slice (some ⟨w7.heap.size, 0, none⟩) r r) (List.replicate r 0) by
              have h := Own8.lit w7 w7.heap.size (List.replicate r 0) (Nat.le_refl _) (by rw [List.length_replicate]; simp only [maxLen]; omega)
              rw [hw8, List.length_replicate] at h
              exact h)
            have ZRL := hid_ (show (List.replicate r (0 : UInt8)).length = r from List.length_replicate)
            have R60 := hid_ hr60
            have T8 := hid_ (T7.out.then_ b78)
            have O88 := hid_ (O87.out.below b78 (Nat.le_refl _))
            have O98 := hid_ (O97.out.below b78 (Nat.le_refl _))
            have O118 := hid_ (O117.out.below b78 (Nat.le_refl _))
            have S78 := hid_ b78.size
            clear tr' rr' hpb ub b78
            go_upto_region 14 with fail
            clear hma1 hmk hw8 wpr wur wir tr rr hpr wm1 wm2 uu T7 O87 O97 O117
            generalize List.replicate r (0 : UInt8) = ZR at *
            generalize w7.heap.size = g12 at *
            -- the head
            obtain ⟨j1, hj1⟩ : ∃ x : Nat, (j : Int) + 1 = (x : Int) := ⟨j + 1, by omega⟩
            have HJ1 := hid_ (show j1 = j + 1 by omega)
            have wj1 : IntKind.i64.wrap (j1 : Int) = (j1 : Int) := IntWalk.i64_in _ (by omega)
            go_upto_region 15 with (first | (refine wpList_put_row rfl 35 (.tmp 13) (.tmp 84) rfl w8.heap.size ({ e := 1, n := (j1 : Int), c := 1, d := (j1 : Int), pa := none, pl := [], pc := 0 } : HeadV).row rfl rfl 35 hd0.row (Bk.new w8 _ _) (iHead _) rfl (head_one _) ?_; intro w9 k9 g9 s9; have B9 := mark_put w8 w9 w8.heap.size 35 hd0.row _ g9; have H9 := hid_ k9; have T9 := hid_ (T8.out.then_ B9); have O89 := hid_ (O88.out.below B9 (Nat.le_refl _)); have O99 := hid_ (O98.out.below B9 (Nat.le_refl _)); have O119 := hid_ (O118.out.below B9 (Nat.le_refl _)); have O129 := hid_ (O12.out.below B9 (Nat.le_refl _)); have n13 := hid_ (show w8.heap.size ∉ Fa1 ∧ w8.heap.size ∉ Fb1 from ⟨fun hm => absurd (T8.out.a.lt _ hm) (Nat.lt_irrefl _), fun hm => absurd (T8.out.b.lt _ hm) (Nat.lt_irrefl _)⟩); clear k9 g9 s9 B9))
            clear hj1 wj1 T8 O88 O98 O118 O12
            generalize w8.heap.size = g13 at *
            rename_i K9 hK9
            have HOKH : HeadV.Ok (⟨1, (j1 : Int), 1, (j1 : Int), none, [], 0⟩ : HeadV) := ⟨⟨Int.le_refl 1, by show (1 : Int) ≤ 1048576; omega⟩, ⟨by show (1 : Int) ≤ (j1 : Int); have := HJ1.out; omega, by show (j1 : Int) ≤ 4611686018427387904; have := HJ1.out; omega⟩, ⟨Int.le_refl 1, by show (1 : Int) ≤ 16; omega⟩, ⟨by show (1 : Int) ≤ (j1 : Int); have := HJ1.out; omega, by show (j1 : Int) ≤ 1099511627776; have := HJ1.out; omega⟩, by show 0 ≤ 4096; omega⟩
            have HOK9 := hid_ HOKH
            obtain ⟨base, hbase⟩ : ∃ x, w9.heap.size = x := ⟨_, rfl⟩
            have BS := hid_ (show w.heap.size ≤ base ∧ wR.heap.size ≤ base ∧ (∀ k ∈ Fa1, k < base) ∧ (∀ k ∈ Fb1, k < base) from ⟨by rw [← hbase]; exact T9.out.a.below.size, by rw [← hbase]; have h1 := (World.ownsRow.lt O129.out _ rfl).2; have h2 := W7.out.2; have h3 := (World.ownsRow.lt O129.out _ rfl).1; omega, by rw [← hbase]; exact T9.out.a.lt, by rw [← hbase]; exact T9.out.b.lt⟩)
            have HB9 := hid_ hbase
            have C2 : Hid (∀ W (G : List Nat), Untouched G w9 W → b ∉ G → W.cell? ⟨b, off + j * 3 + 2, none⟩ = some (.bool q.del)) := hid_ (fun W G hU hb => (World.cell?_of_block (hU.block b (by have := HBL.out; have := T9.out.a.below.size; omega) hb)).trans (HROW.out w9 T9.out.a.below).2.2)
            have NBF := hid_ (show b ∉ Fa1 ∧ b ∉ Fb1 from ⟨fun hm => by have := T9.out.a.own _ hm; have := HBL.out; omega, fun hm => by have := T9.out.b.own _ hm; have := HBL.out; omega⟩)
            clear HOKH hbase
            by_cases hbad : mn = 0
            · have HBAD := hid_ hbad
              clear hbad
              have FLa := hid_ BS.out.2.2.1
              have WBa := hid_ BS.out.1
              have A9M := hid_ T9.out.a
              rw [put_none]
              refine region_byJF [86, 87, 88, 89, 90, 91, 92, 93, 94, 95, 85, 96, 97, 14, 15] (fun W => Untouched Fa1 w9 W) (fun _ _ => True) (fun jR_ vR_ (_ : World) => (match jR_ with | 0 => vR_ = .pointer (some ⟨va, 0, none⟩) | 1 => vR_ = .slice A8 mn c8 | 2 => vR_ = .agg (⟨1, (j1 : Int), 1, (j1 : Int), none, [], 0⟩ : HeadV).row | 3 => vR_ = .slice A11 ma c11 | 4 => vR_ = .slice (some ⟨b, off, none⟩) n1 c1 | 5 => vR_ = .int .i64 (j : Int) | 6 => vR_ = .pointer (some ⟨b, off + j * 3, none⟩) | 7 => vR_ = .pointer (some ⟨b, off + j * 3 + 2, none⟩) | 8 => vR_ = .bool q.del | _ => True : Prop)) (fun D a W => XeJ erVX erRW (.int .i64 1) 38 base (fun W => MineX w true va spa nma kna K N La Fa1 W) (fun _ W => MineX w true va spa nma kna K N La Fa1 W) (fun _ => []) 38 (D 9) (D 10) (D 11) (D 12) (D 13) (D 14) (D 15) (a.tmps.getD 95 undef) (a.tmps.getD 85 undef) (a.tmps.getD 96 undef) (a.tmps.getD 97 undef) (a.tmps.getD 14 undef) (a.tmps.getD 15 undef) W) (by kernel_rfl) (by kernel_rfl) (by kernel_rfl) (by kernel_rfl) (fun j v w w' hT hr => hr) (fun j v w hlt hj _ => ?_) ⟨rfl, rfl, rfl, Nat.le_refl _, fun _ _ _ => rfl⟩ ?_ (XeJ.start (MineX.then_ A9M.out ((Below.refl _ _).drew))) ?_
              · rcases j with _ | _ | _ | _ | _ | _ | _ | _ | _ | _ | _ | _ | _ | _ | _ | _ | j
                all_goals first
                  | (exfalso; simp [dstOf] at hj; done)
                  | trivial
              · refine ⟨fun D a W hC hd hsz hf hv hJ hL hW K hK => ?_, fun D a W hC hd hsz hf hv hJ hL hW K hK => ?_, fun D a W hC hd hsz hf hv hJ hL hW K hK => ?_, fun D a W hC hd hsz hf hv hJ hL hW K hK => ?_, fun D a W hC hd hsz hf hv hJ hL hW K hK => ?_, fun D a W hC hd hsz hf hv hJ hL hW K hK => ?_, fun D a W hC hd hsz hf hv hJ hL hW K hK => ?_, fun D a W hC hd hsz hf hv hJ hL hW K hK => ?_, fun D a W hC hd hsz hf hv hJ hL hW K hK => ?_, fun D a W hC hd hsz hf hv hJ hL hW K hK => ?_, fun D a W hC hd hsz hf hv hJ hL hW K hK => ?_, fun D a W hC hd hsz hf hv hJ hL hW K hK => ?_, fun D a W hC hd hsz hf hv hJ hL hW K hK => ?_, fun D a W hC hd hsz hf hv hJ hL hW K hK => ?_, fun D a W hC hd hsz hf hv hJ hL hW K hK => ?_, fun D a W hC hd hsz hf hv hJ hL hW K hK => ?_, trivial⟩
                · have HSZ : a.tmps.size = 144 := hsz
                  have e1 := slot_of (a := a) (s := 5) (v := .pointer (some ⟨va, 0, none⟩)) (hf 5 (by kernel_rfl))
                  refine step_run (wanted_none rfl) (v := .pointer (some ⟨va, 0, none⟩)) (w' := W) ?_ (hK _ _ hC trivial rfl (by simp only [put_otherX (show (95 : Nat) ≠ 86 by decide), put_otherX (show (85 : Nat) ≠ 86 by decide), put_otherX (show (96 : Nat) ≠ 86 by decide), put_otherX (show (97 : Nat) ≠ 86 by decide), put_otherX (show (14 : Nat) ≠ 86 by decide), put_otherX (show (15 : Nat) ≠ 86 by decide)]; exact hJ))
                  clear hsz HSZ
                  go_simp
                · have HSZ : a.tmps.size = 144 := hsz
                  have e1 := slot_of (a := a) (s := 8) (v := .slice A8 mn c8) (hf 8 (by kernel_rfl))
                  refine step_run (wanted_none rfl) (v := .slice A8 mn c8) (w' := W) ?_ (hK _ _ hC trivial rfl (by simp only [put_otherX (show (95 : Nat) ≠ 87 by decide), put_otherX (show (85 : Nat) ≠ 87 by decide), put_otherX (show (96 : Nat) ≠ 87 by decide), put_otherX (show (97 : Nat) ≠ 87 by decide), put_otherX (show (14 : Nat) ≠ 87 by decide), put_otherX (show (15 : Nat) ≠ 87 by decide)]; exact hJ))
                  clear hsz HSZ
                  go_simp
                · have HSZ : a.tmps.size = 144 := hsz
                  have e1 := slot_of (a := a) (s := 13) (v := .pointer (some ⟨g13, 0, none⟩)) (hf 13 (by kernel_rfl))
                  exact step_load_rowW (wanted_none rfl) 35 (.tmp 13) rfl g13 (eval_of (hf 13 (by kernel_rfl))) 35 (⟨1, (j1 : Int), 1, (j1 : Int), none, [], 0⟩ : HeadV).row (H9.out.untouched hC n13.out.1) _ Tryd.underlying35 rfl (iHead _) (hK _ _ hC trivial rfl (by simp only [put_otherX (show (95 : Nat) ≠ 88 by decide), put_otherX (show (85 : Nat) ≠ 88 by decide), put_otherX (show (96 : Nat) ≠ 88 by decide), put_otherX (show (97 : Nat) ≠ 88 by decide), put_otherX (show (14 : Nat) ≠ 88 by decide), put_otherX (show (15 : Nat) ≠ 88 by decide)]; exact hJ))
                · have HSZ : a.tmps.size = 144 := hsz
                  have e1 := slot_of (a := a) (s := 11) (v := .slice A11 ma c11) (hf 11 (by kernel_rfl))
                  refine step_run (wanted_none rfl) (v := .slice A11 ma c11) (w' := W) ?_ (hK _ _ hC trivial rfl (by simp only [put_otherX (show (95 : Nat) ≠ 89 by decide), put_otherX (show (85 : Nat) ≠ 89 by decide), put_otherX (show (96 : Nat) ≠ 89 by decide), put_otherX (show (97 : Nat) ≠ 89 by decide), put_otherX (show (14 : Nat) ≠ 89 by decide), put_otherX (show (15 : Nat) ≠ 89 by decide)]; exact hJ))
                  clear hsz HSZ
                  go_simp
                · have HSZ : a.tmps.size = 144 := hsz
                  have e1 := slot_of (a := a) (s := 0) (v := .slice (some ⟨b, off, none⟩) n1 c1) (hf 0 (by kernel_rfl))
                  refine step_run (wanted_none rfl) (v := .slice (some ⟨b, off, none⟩) n1 c1) (w' := W) ?_ (hK _ _ hC trivial rfl (by simp only [put_otherX (show (95 : Nat) ≠ 90 by decide), put_otherX (show (85 : Nat) ≠ 90 by decide), put_otherX (show (96 : Nat) ≠ 90 by decide), put_otherX (show (97 : Nat) ≠ 90 by decide), put_otherX (show (14 : Nat) ≠ 90 by decide), put_otherX (show (15 : Nat) ≠ 90 by decide)]; exact hJ))
                  clear hsz HSZ
                  go_simp
                · have HSZ : a.tmps.size = 144 := hsz
                  have e1 := slot_of (a := a) (s := 7) (v := .int .i64 (j : Int)) (hf 7 (by kernel_rfl))
                  refine step_run (wanted_none rfl) (v := .int .i64 (j : Int)) (w' := W) ?_ (hK _ _ hC trivial rfl (by simp only [put_otherX (show (95 : Nat) ≠ 91 by decide), put_otherX (show (85 : Nat) ≠ 91 by decide), put_otherX (show (96 : Nat) ≠ 91 by decide), put_otherX (show (97 : Nat) ≠ 91 by decide), put_otherX (show (14 : Nat) ≠ 91 by decide), put_otherX (show (15 : Nat) ≠ 91 by decide)]; exact hJ))
                  clear hsz HSZ
                  go_simp
                · have HSZ : a.tmps.size = 144 := hsz
                  have e1 := slot_of (a := a) (s := 90) (v := .slice (some ⟨b, off, none⟩) n1 c1) (hv 4 (by kernel_rfl))
                  have e2 := slot_of (a := a) (s := 91) (v := .int .i64 (j : Int)) (hv 5 (by kernel_rfl))
                  refine step_run (wanted_none rfl) (v := .pointer (some ⟨b, off + j * 3, none⟩)) (w' := W) ?_ (hK _ _ hC trivial rfl (by simp only [put_otherX (show (95 : Nat) ≠ 92 by decide), put_otherX (show (85 : Nat) ≠ 92 by decide), put_otherX (show (96 : Nat) ≠ 92 by decide), put_otherX (show (97 : Nat) ≠ 92 by decide), put_otherX (show (14 : Nat) ≠ 92 by decide), put_otherX (show (15 : Nat) ≠ 92 by decide)]; exact hJ))
                  clear hsz HSZ
                  go_simp
                · have HSZ : a.tmps.size = 144 := hsz
                  have e1 := slot_of (a := a) (s := 92) (v := .pointer (some ⟨b, off + j * 3, none⟩)) (hv 6 (by kernel_rfl))
                  refine step_run (wanted_none rfl) (v := .pointer (some ⟨b, off + j * 3 + 2, none⟩)) (w' := W) ?_ (hK _ _ hC trivial rfl (by simp only [put_otherX (show (95 : Nat) ≠ 93 by decide), put_otherX (show (85 : Nat) ≠ 93 by decide), put_otherX (show (96 : Nat) ≠ 93 by decide), put_otherX (show (97 : Nat) ≠ 93 by decide), put_otherX (show (14 : Nat) ≠ 93 by decide), put_otherX (show (15 : Nat) ≠ 93 by decide)]; exact hJ))
                  clear hsz HSZ
                  go_simp
                · have HSZ : a.tmps.size = 144 := hsz
                  have e1 := slot_of (a := a) (s := 93) (v := .pointer (some ⟨b, off + j * 3 + 2, none⟩)) (hv 7 (by kernel_rfl))
                  have c2 := C2.out W Fa1 hC NBF.out.1
                  refine step_run (wanted_none rfl) (v := .bool q.del) (w' := W) ?_ (hK _ _ hC trivial rfl (by simp only [put_otherX (show (95 : Nat) ≠ 94 by decide), put_otherX (show (85 : Nat) ≠ 94 by decide), put_otherX (show (96 : Nat) ≠ 94 by decide), put_otherX (show (97 : Nat) ≠ 94 by decide), put_otherX (show (14 : Nat) ≠ 94 by decide), put_otherX (show (15 : Nat) ≠ 94 by decide)]; exact hJ))
                  clear hsz HSZ
                  go_simp
                · have HSZ : a.tmps.size = 144 := hsz
                  have e1 := slot_of (a := a) (s := 86) (v := .pointer (some ⟨va, 0, none⟩)) (hv 0 (by kernel_rfl))
                  have e2 := slot_of (a := a) (s := 87) (v := .slice A8 mn c8) (hv 1 (by kernel_rfl))
                  have e3 := slot_of (a := a) (s := 88) (v := .agg (⟨1, (j1 : Int), 1, (j1 : Int), none, [], 0⟩ : HeadV).row) (hv 2 (by kernel_rfl))
                  have e4 := slot_of (a := a) (s := 89) (v := .slice A11 ma c11) (hv 3 (by kernel_rfl))
                  have e5 := slot_of (a := a) (s := 94) (v := .bool q.del) (hv 8 (by kernel_rfl))
                  have M := hJ.no hL
                  have hsz9 : base ≤ W.heap.size := by have := hC.size; have := HB9.out; omega
                  have cs := seal_no1 W va A8 mn c8 (⟨1, (j1 : Int), 1, (j1 : Int), none, [], 0⟩ : HeadV) (.slice A11 ma c11) q.del (by have := HBAD.out; omega)
                  refine step_callx 7 #[.pointer (some ⟨va, 0, none⟩), .slice A8 mn c8, .agg (⟨1, (j1 : Int), 1, (j1 : Int), none, [], 0⟩ : HeadV).row, .slice A11 ma c11, .bool q.del] (wanted_none rfl) (w' := W) ?_ (cs.mono fun e W2 hh => ?_)
                  · clear hsz HSZ
                    go_simp
                  · obtain ⟨rfl, hB⟩ := hh
                    exact ⟨_, rfl, hK _ _ (hC.thenB hB) trivial trivial (by simp only [put_otherX (show (85 : Nat) ≠ 95 by decide), put_otherX (show (96 : Nat) ≠ 95 by decide), put_otherX (show (97 : Nat) ≠ 95 by decide), put_otherX (show (14 : Nat) ≠ 95 by decide), put_otherX (show (15 : Nat) ≠ 95 by decide), put_selfX (show 95 < a.tmps.size by rw [HSZ]; omega)]; exact hJ.to_x hL default (M.then_ hB) (fun k _ hk => hB.block k hk) (fun k hm => by cases hm))⟩
                · have HSZ : a.tmps.size = 144 := hsz
                  refine step_run (wanted_none rfl) (v := a.tmps.getD 95 undef) (w' := W) ?_ (hK _ _ hC trivial trivial (by simp only [put_otherX (show (95 : Nat) ≠ 85 by decide), put_otherX (show (96 : Nat) ≠ 85 by decide), put_otherX (show (97 : Nat) ≠ 85 by decide), put_otherX (show (14 : Nat) ≠ 85 by decide), put_otherX (show (15 : Nat) ≠ 85 by decide), put_selfX (show 85 < a.tmps.size by rw [HSZ]; omega)]; exact hJ.to_mv (hW 9 (by kernel_rfl))))
                  clear hsz HSZ
                  go_simp
                · have HSZ : a.tmps.size = 144 := hsz
                  obtain ⟨a2, q2, X2, k1, k2, k3, k4, k5, k6, k7, k8⟩ := hJ.ex
                  have e1 := slot_of (k2 (hW 10 (by kernel_rfl)))
                  refine step_run (wanted_none rfl) (v := .agg (erRW a2)) (w' := W) ?_ (hK _ _ hC trivial trivial (by simp only [put_otherX (show (95 : Nat) ≠ 96 by decide), put_otherX (show (85 : Nat) ≠ 96 by decide), put_otherX (show (97 : Nat) ≠ 96 by decide), put_otherX (show (14 : Nat) ≠ 96 by decide), put_otherX (show (15 : Nat) ≠ 96 by decide), put_selfX (show 96 < a.tmps.size by rw [HSZ]; omega)]; exact hJ.to_s0 (hW 10 (by kernel_rfl)) a2 (k2 (hW 10 (by kernel_rfl))) (fun _ _ _ => rfl)))
                  (try unfold erRW); unfold erVX at e1
                  clear hsz HSZ k1 k2 k3 k4 k5 k6 k7 k8
                  go_simp
                · have HSZ : a.tmps.size = 144 := hsz
                  obtain ⟨a2, q2, X2, k1, k2, k3, k4, k5, k6, k7, k8⟩ := hJ.ex
                  have e1 := slot_of (k2 (hW 10 (by kernel_rfl)))
                  refine step_run (wanted_none rfl) (v := .int .i64 1) (w' := W) ?_ (hK _ _ hC trivial trivial (by simp only [put_otherX (show (95 : Nat) ≠ 97 by decide), put_otherX (show (85 : Nat) ≠ 97 by decide), put_otherX (show (96 : Nat) ≠ 97 by decide), put_otherX (show (14 : Nat) ≠ 97 by decide), put_otherX (show (15 : Nat) ≠ 97 by decide), put_selfX (show 97 < a.tmps.size by rw [HSZ]; omega)]; exact hJ.to_s1 (hW 10 (by kernel_rfl))))
                  (try unfold erRW); unfold erVX at e1
                  clear hsz HSZ k1 k2 k3 k4 k5 k6 k7 k8
                  go_simp
                · have HSZ : a.tmps.size = 144 := hsz
                  have hBW : base ≤ W.heap.size := (by have := hC.size; have := HB9.out; omega)
                  refine step_run (wanted_none rfl) (v := .pointer (some ⟨W.heap.size, 0, none⟩)) (w' := W.alloc (.cells eRow0 38)) ?_ (hK _ _ (hC.trans (Grew.refl _ _) (Untouched.alloc _)) trivial trivial (by simp only [put_otherX (show (95 : Nat) ≠ 14 by decide), put_otherX (show (85 : Nat) ≠ 14 by decide), put_otherX (show (96 : Nat) ≠ 14 by decide), put_otherX (show (97 : Nat) ≠ 14 by decide), put_otherX (show (15 : Nat) ≠ 14 by decide), put_selfX (show 14 < a.tmps.size by rw [HSZ]; omega)]; exact hJ.to_al hL hBW eRow_z (fun h => h.then_ ((Below.refl _ _).alloc (Nat.le_refl _) _)) (fun a h => ⟨h.then_ ((Below.refl _ _).alloc (Nat.le_refl _) _), fun k hm => by cases hm⟩)))
                  clear hsz HSZ hBW
                  go_simp
                · have HSZ : a.tmps.size = 144 := hsz
                  obtain ⟨a2, q2, X2, k1, k2, k3, k4, k5, k6, k7, k8⟩ := hJ.ex
                  obtain ⟨m1, m2, m3, m4⟩ := k6 (hW 13 (by kernel_rfl))
                  have e1 := eval_of m1
                  have e2 := eval_of (k3 (hW 11 (by kernel_rfl)))
                  refine step_put_row rfl 38 _ _ rfl q2 (erRW a2) e1 e2 38 X2 m3 (iE _ rfl _ _ _ _) (m4.trans eRow_z.symm) (eRow_one _ _ _ _ _) ?_
                  intro W' k9 g9 s9
                  exact hK _ _ (hC.trans (F' := [q2]) (fun k hk => .inr (by rw [List.mem_singleton.1 hk]; have := HB9.out; omega)) (Untouched.of_grown (F := [q2]) g9 (fun k hk => by injection hk with hk; subst hk; exact List.mem_singleton.2 rfl))) trivial trivial (by simp only [put_none]; exact hJ.to_st (hW 11 (by kernel_rfl)) (hW 13 (by kernel_rfl)) m1 (k3 (hW 11 (by kernel_rfl))) eRow_z k9 (fun a h hq => set_minex h (Untouched.of_grown (F := [q2]) g9 (fun k hk => by injection hk with hk; subst hk; exact List.mem_singleton.2 rfl)) (fun hm => by have := h.lt _ hm; have := FLa.out _ hm; omega) (Nat.le_trans WBa.out m2)))
                · have HSZ : a.tmps.size = 144 := hsz
                  obtain ⟨a2, q2, X2, k1, k2, k3, k4, k5, k6, k7, k8⟩ := hJ.ex
                  have e1 := slot_of (k4 (hW 12 (by kernel_rfl)))
                  refine step_run (wanted_none rfl) (v := .int .i64 1) (w' := W) ?_ (hK _ _ hC trivial trivial (by simp only [put_otherX (show (95 : Nat) ≠ 15 by decide), put_otherX (show (85 : Nat) ≠ 15 by decide), put_otherX (show (96 : Nat) ≠ 15 by decide), put_otherX (show (97 : Nat) ≠ 15 by decide), put_otherX (show (14 : Nat) ≠ 15 by decide), put_selfX (show 15 < a.tmps.size by rw [HSZ]; omega)]; exact hJ.to_ae (hW 12 (by kernel_rfl))))
                  clear hsz HSZ k1 k2 k3 k4 k5 k6 k7 k8
                  go_simp
              · intro f W hC hv L hL hJ'
                obtain ⟨aE, hJ, hfr⟩ := hJ'
                obtain ⟨a2, q2, X2, k1, k2, k3, k4, k5, k6, k7, k8⟩ := hJ.ex
                obtain ⟨-, jP⟩ := k1 (hL 9 (by decide))
                obtain ⟨m1, m2, m3, m4⟩ := k6 (hL 13 (by decide))
                have m7 := k7 (hL 14 (by decide))
                have m8 := k8 (hL 9 (by decide)) (hL 13 (by decide))
                rw [m7] at m3
                have hfa : f 14 = .pointer (some ⟨q2, 0, none⟩) := by rw [← hfr 14]; exact m1
                have hfe : f 15 = .int .i64 1 := by rw [← hfr 15]; exact k5 (hL 15 (by decide))
                simp only [framed, List.foldl_cons, List.foldl_nil, List.setIfInBounds_toArray, List.set_cons_succ, List.set_cons_zero, hfa, hfe]
                clear hv hJ hfr hL k1 k2 k3 k4 k5 k6 k7 k8 m1 m4 m7 hfa hfe
                have A10 := hid_ jP
                have U10 := hid_ hC
                obtain ⟨w10, hw10⟩ : ∃ x, x = W := ⟨_, rfl⟩
                subst hw10
                have X10 := hid_ (A10.out.below)
                have B10M := hid_ (T9.out.b.other U10.out (fun k hk hm => T9.out.dis k hk hm) X10.out)
                have H10 := hid_ (H9.out.untouched U10.out n13.out.1)
                have U910 := hid_ U10.out
                have C2B : Hid (∀ W, Untouched Fb1 w10 W → W.cell? ⟨b, off + j * 3 + 2, none⟩ = some (.bool q.del)) := hid_ (fun W hU => (World.cell?_of_block (hU.block b (by have := HBL.out; have := X10.out.size; omega) NBF.out.2)).trans (C2.out w10 Fa1 U10.out NBF.out.1))
                obtain ⟨base2, hbase2⟩ : ∃ x, w10.heap.size = x := ⟨_, rfl⟩
                have HB10 := hid_ hbase2
                have FLb := hid_ (show ∀ k ∈ Fb1, k < base2 from fun k hk => by have := B10M.out.lt k hk; omega)
                have WBb := hid_ (show w.heap.size ≤ base2 by rw [← hbase2]; exact X10.out.size)
                clear hC jP m3 m8 hbase2 C2
                refine hK9 _ _ ?_
                clear hK9 K9
                go_upto_region 16 with fail
                rename_i K9 hK9
                refine region_byJF [99, 100, 101, 102, 103, 104, 105, 106, 107, 108, 98, 109, 110, 16, 17] (fun W => Untouched Fb1 w10 W) (fun _ _ => True) (fun jR_ vR_ (_ : World) => (match jR_ with | 0 => vR_ = .pointer (some ⟨vb, 0, none⟩) | 1 => vR_ = .slice A9 mn c9 | 2 => vR_ = .agg (⟨1, (j1 : Int), 1, (j1 : Int), none, [], 0⟩ : HeadV).row | 3 => vR_ = .slice (some ⟨g12, 0, none⟩) r r | 4 => vR_ = .slice (some ⟨b, off, none⟩) n1 c1 | 5 => vR_ = .int .i64 (j : Int) | 6 => vR_ = .pointer (some ⟨b, off + j * 3, none⟩) | 7 => vR_ = .pointer (some ⟨b, off + j * 3 + 2, none⟩) | 8 => vR_ = .bool q.del | _ => True : Prop)) (fun D a W => XeJ erVX erRW (.int .i64 1) 38 base2 (fun W => MineX w true vb spb nmb knb K (N.map (xorU u)) Lb Fb1 W) (fun _ W => MineX w true vb spb nmb knb K (N.map (xorU u)) Lb Fb1 W) (fun _ => []) 38 (D 9) (D 10) (D 11) (D 12) (D 13) (D 14) (D 15) (a.tmps.getD 108 undef) (a.tmps.getD 98 undef) (a.tmps.getD 109 undef) (a.tmps.getD 110 undef) (a.tmps.getD 16 undef) (a.tmps.getD 17 undef) W) (by kernel_rfl) (by kernel_rfl) (by kernel_rfl) (by kernel_rfl) (fun j v w w' hT hr => hr) (fun j v w hlt hj _ => ?_) ⟨rfl, rfl, rfl, Nat.le_refl _, fun _ _ _ => rfl⟩ ?_ (XeJ.start (MineX.then_ B10M.out ((Below.refl _ _).drew))) ?_
                · rcases j with _ | _ | _ | _ | _ | _ | _ | _ | _ | _ | _ | _ | _ | _ | _ | _ | j
                  all_goals first
                    | (exfalso; simp [dstOf] at hj; done)
                    | trivial
                · refine ⟨fun D a W hC hd hsz hf hv hJ hL hW K hK => ?_, fun D a W hC hd hsz hf hv hJ hL hW K hK => ?_, fun D a W hC hd hsz hf hv hJ hL hW K hK => ?_, fun D a W hC hd hsz hf hv hJ hL hW K hK => ?_, fun D a W hC hd hsz hf hv hJ hL hW K hK => ?_, fun D a W hC hd hsz hf hv hJ hL hW K hK => ?_, fun D a W hC hd hsz hf hv hJ hL hW K hK => ?_, fun D a W hC hd hsz hf hv hJ hL hW K hK => ?_, fun D a W hC hd hsz hf hv hJ hL hW K hK => ?_, fun D a W hC hd hsz hf hv hJ hL hW K hK => ?_, fun D a W hC hd hsz hf hv hJ hL hW K hK => ?_, fun D a W hC hd hsz hf hv hJ hL hW K hK => ?_, fun D a W hC hd hsz hf hv hJ hL hW K hK => ?_, fun D a W hC hd hsz hf hv hJ hL hW K hK => ?_, fun D a W hC hd hsz hf hv hJ hL hW K hK => ?_, fun D a W hC hd hsz hf hv hJ hL hW K hK => ?_, trivial⟩
                  · have HSZ : a.tmps.size = 144 := hsz
                    have e1 := slot_of (a := a) (s := 6) (v := .pointer (some ⟨vb, 0, none⟩)) (hf 6 (by kernel_rfl))
                    refine step_run (wanted_none rfl) (v := .pointer (some ⟨vb, 0, none⟩)) (w' := W) ?_ (hK _ _ hC trivial rfl (by simp only [put_otherX (show (108 : Nat) ≠ 99 by decide), put_otherX (show (98 : Nat) ≠ 99 by decide), put_otherX (show (109 : Nat) ≠ 99 by decide), put_otherX (show (110 : Nat) ≠ 99 by decide), put_otherX (show (16 : Nat) ≠ 99 by decide), put_otherX (show (17 : Nat) ≠ 99 by decide)]; exact hJ))
                    clear hsz HSZ
                    go_simp
                  · have HSZ : a.tmps.size = 144 := hsz
                    have e1 := slot_of (a := a) (s := 9) (v := .slice A9 mn c9) (hf 9 (by kernel_rfl))
                    refine step_run (wanted_none rfl) (v := .slice A9 mn c9) (w' := W) ?_ (hK _ _ hC trivial rfl (by simp only [put_otherX (show (108 : Nat) ≠ 100 by decide), put_otherX (show (98 : Nat) ≠ 100 by decide), put_otherX (show (109 : Nat) ≠ 100 by decide), put_otherX (show (110 : Nat) ≠ 100 by decide), put_otherX (show (16 : Nat) ≠ 100 by decide), put_otherX (show (17 : Nat) ≠ 100 by decide)]; exact hJ))
                    clear hsz HSZ
                    go_simp
                  · have HSZ : a.tmps.size = 144 := hsz
                    have e1 := slot_of (a := a) (s := 13) (v := .pointer (some ⟨g13, 0, none⟩)) (hf 13 (by kernel_rfl))
                    exact step_load_rowW (wanted_none rfl) 35 (.tmp 13) rfl g13 (eval_of (hf 13 (by kernel_rfl))) 35 (⟨1, (j1 : Int), 1, (j1 : Int), none, [], 0⟩ : HeadV).row (H10.out.untouched hC n13.out.2) _ Tryd.underlying35 rfl (iHead _) (hK _ _ hC trivial rfl (by simp only [put_otherX (show (108 : Nat) ≠ 101 by decide), put_otherX (show (98 : Nat) ≠ 101 by decide), put_otherX (show (109 : Nat) ≠ 101 by decide), put_otherX (show (110 : Nat) ≠ 101 by decide), put_otherX (show (16 : Nat) ≠ 101 by decide), put_otherX (show (17 : Nat) ≠ 101 by decide)]; exact hJ))
                  · have HSZ : a.tmps.size = 144 := hsz
                    have e1 := slot_of (a := a) (s := 12) (v := .slice (some ⟨g12, 0, none⟩) r r) (hf 12 (by kernel_rfl))
                    refine step_run (wanted_none rfl) (v := .slice (some ⟨g12, 0, none⟩) r r) (w' := W) ?_ (hK _ _ hC trivial rfl (by simp only [put_otherX (show (108 : Nat) ≠ 102 by decide), put_otherX (show (98 : Nat) ≠ 102 by decide), put_otherX (show (109 : Nat) ≠ 102 by decide), put_otherX (show (110 : Nat) ≠ 102 by decide), put_otherX (show (16 : Nat) ≠ 102 by decide), put_otherX (show (17 : Nat) ≠ 102 by decide)]; exact hJ))
                    clear hsz HSZ
                    go_simp
                  · have HSZ : a.tmps.size = 144 := hsz
                    have e1 := slot_of (a := a) (s := 0) (v := .slice (some ⟨b, off, none⟩) n1 c1) (hf 0 (by kernel_rfl))
                    refine step_run (wanted_none rfl) (v := .slice (some ⟨b, off, none⟩) n1 c1) (w' := W) ?_ (hK _ _ hC trivial rfl (by simp only [put_otherX (show (108 : Nat) ≠ 103 by decide), put_otherX (show (98 : Nat) ≠ 103 by decide), put_otherX (show (109 : Nat) ≠ 103 by decide), put_otherX (show (110 : Nat) ≠ 103 by decide), put_otherX (show (16 : Nat) ≠ 103 by decide), put_otherX (show (17 : Nat) ≠ 103 by decide)]; exact hJ))
                    clear hsz HSZ
                    go_simp
                  · have HSZ : a.tmps.size = 144 := hsz
                    have e1 := slot_of (a := a) (s := 7) (v := .int .i64 (j : Int)) (hf 7 (by kernel_rfl))
                    refine step_run (wanted_none rfl) (v := .int .i64 (j : Int)) (w' := W) ?_ (hK _ _ hC trivial rfl (by simp only [put_otherX (show (108 : Nat) ≠ 104 by decide), put_otherX (show (98 : Nat) ≠ 104 by decide), put_otherX (show (109 : Nat) ≠ 104 by decide), put_otherX (show (110 : Nat) ≠ 104 by decide), put_otherX (show (16 : Nat) ≠ 104 by decide), put_otherX (show (17 : Nat) ≠ 104 by decide)]; exact hJ))
                    clear hsz HSZ
                    go_simp
                  · have HSZ : a.tmps.size = 144 := hsz
                    have e1 := slot_of (a := a) (s := 103) (v := .slice (some ⟨b, off, none⟩) n1 c1) (hv 4 (by kernel_rfl))
                    have e2 := slot_of (a := a) (s := 104) (v := .int .i64 (j : Int)) (hv 5 (by kernel_rfl))
                    refine step_run (wanted_none rfl) (v := .pointer (some ⟨b, off + j * 3, none⟩)) (w' := W) ?_ (hK _ _ hC trivial rfl (by simp only [put_otherX (show (108 : Nat) ≠ 105 by decide), put_otherX (show (98 : Nat) ≠ 105 by decide), put_otherX (show (109 : Nat) ≠ 105 by decide), put_otherX (show (110 : Nat) ≠ 105 by decide), put_otherX (show (16 : Nat) ≠ 105 by decide), put_otherX (show (17 : Nat) ≠ 105 by decide)]; exact hJ))
                    clear hsz HSZ
                    go_simp
                  · have HSZ : a.tmps.size = 144 := hsz
                    have e1 := slot_of (a := a) (s := 105) (v := .pointer (some ⟨b, off + j * 3, none⟩)) (hv 6 (by kernel_rfl))
                    refine step_run (wanted_none rfl) (v := .pointer (some ⟨b, off + j * 3 + 2, none⟩)) (w' := W) ?_ (hK _ _ hC trivial rfl (by simp only [put_otherX (show (108 : Nat) ≠ 106 by decide), put_otherX (show (98 : Nat) ≠ 106 by decide), put_otherX (show (109 : Nat) ≠ 106 by decide), put_otherX (show (110 : Nat) ≠ 106 by decide), put_otherX (show (16 : Nat) ≠ 106 by decide), put_otherX (show (17 : Nat) ≠ 106 by decide)]; exact hJ))
                    clear hsz HSZ
                    go_simp
                  · have HSZ : a.tmps.size = 144 := hsz
                    have e1 := slot_of (a := a) (s := 106) (v := .pointer (some ⟨b, off + j * 3 + 2, none⟩)) (hv 7 (by kernel_rfl))
                    have c2 := C2B.out W hC
                    refine step_run (wanted_none rfl) (v := .bool q.del) (w' := W) ?_ (hK _ _ hC trivial rfl (by simp only [put_otherX (show (108 : Nat) ≠ 107 by decide), put_otherX (show (98 : Nat) ≠ 107 by decide), put_otherX (show (109 : Nat) ≠ 107 by decide), put_otherX (show (110 : Nat) ≠ 107 by decide), put_otherX (show (16 : Nat) ≠ 107 by decide), put_otherX (show (17 : Nat) ≠ 107 by decide)]; exact hJ))
                    clear hsz HSZ
                    go_simp
                  · have HSZ : a.tmps.size = 144 := hsz
                    have e1 := slot_of (a := a) (s := 99) (v := .pointer (some ⟨vb, 0, none⟩)) (hv 0 (by kernel_rfl))
                    have e2 := slot_of (a := a) (s := 100) (v := .slice A9 mn c9) (hv 1 (by kernel_rfl))
                    have e3 := slot_of (a := a) (s := 101) (v := .agg (⟨1, (j1 : Int), 1, (j1 : Int), none, [], 0⟩ : HeadV).row) (hv 2 (by kernel_rfl))
                    have e4 := slot_of (a := a) (s := 102) (v := .slice (some ⟨g12, 0, none⟩) r r) (hv 3 (by kernel_rfl))
                    have e5 := slot_of (a := a) (s := 107) (v := .bool q.del) (hv 8 (by kernel_rfl))
                    have M := hJ.no hL
                    have hsz9 : base2 ≤ W.heap.size := by have := hC.size; have := HB10.out; omega
                    have cs := seal_no1 W vb A9 mn c9 (⟨1, (j1 : Int), 1, (j1 : Int), none, [], 0⟩ : HeadV) (.slice (some ⟨g12, 0, none⟩) r r) q.del (by have := HBAD.out; omega)
                    refine step_callx 7 #[.pointer (some ⟨vb, 0, none⟩), .slice A9 mn c9, .agg (⟨1, (j1 : Int), 1, (j1 : Int), none, [], 0⟩ : HeadV).row, .slice (some ⟨g12, 0, none⟩) r r, .bool q.del] (wanted_none rfl) (w' := W) ?_ (cs.mono fun e W2 hh => ?_)
                    · clear hsz HSZ
                      go_simp
                    · obtain ⟨rfl, hB⟩ := hh
                      exact ⟨_, rfl, hK _ _ (hC.thenB hB) trivial trivial (by simp only [put_otherX (show (98 : Nat) ≠ 108 by decide), put_otherX (show (109 : Nat) ≠ 108 by decide), put_otherX (show (110 : Nat) ≠ 108 by decide), put_otherX (show (16 : Nat) ≠ 108 by decide), put_otherX (show (17 : Nat) ≠ 108 by decide), put_selfX (show 108 < a.tmps.size by rw [HSZ]; omega)]; exact hJ.to_x hL default (M.then_ hB) (fun k _ hk => hB.block k hk) (fun k hm => by cases hm))⟩
                  · have HSZ : a.tmps.size = 144 := hsz
                    refine step_run (wanted_none rfl) (v := a.tmps.getD 108 undef) (w' := W) ?_ (hK _ _ hC trivial trivial (by simp only [put_otherX (show (108 : Nat) ≠ 98 by decide), put_otherX (show (109 : Nat) ≠ 98 by decide), put_otherX (show (110 : Nat) ≠ 98 by decide), put_otherX (show (16 : Nat) ≠ 98 by decide), put_otherX (show (17 : Nat) ≠ 98 by decide), put_selfX (show 98 < a.tmps.size by rw [HSZ]; omega)]; exact hJ.to_mv (hW 9 (by kernel_rfl))))
                    clear hsz HSZ
                    go_simp
                  · have HSZ : a.tmps.size = 144 := hsz
                    obtain ⟨a2, q2, X2, k1, k2, k3, k4, k5, k6, k7, k8⟩ := hJ.ex
                    have e1 := slot_of (k2 (hW 10 (by kernel_rfl)))
                    refine step_run (wanted_none rfl) (v := .agg (erRW a2)) (w' := W) ?_ (hK _ _ hC trivial trivial (by simp only [put_otherX (show (108 : Nat) ≠ 109 by decide), put_otherX (show (98 : Nat) ≠ 109 by decide), put_otherX (show (110 : Nat) ≠ 109 by decide), put_otherX (show (16 : Nat) ≠ 109 by decide), put_otherX (show (17 : Nat) ≠ 109 by decide), put_selfX (show 109 < a.tmps.size by rw [HSZ]; omega)]; exact hJ.to_s0 (hW 10 (by kernel_rfl)) a2 (k2 (hW 10 (by kernel_rfl))) (fun _ _ _ => rfl)))
                    (try unfold erRW); unfold erVX at e1
                    clear hsz HSZ k1 k2 k3 k4 k5 k6 k7 k8
                    go_simp
                  · have HSZ : a.tmps.size = 144 := hsz
                    obtain ⟨a2, q2, X2, k1, k2, k3, k4, k5, k6, k7, k8⟩ := hJ.ex
                    have e1 := slot_of (k2 (hW 10 (by kernel_rfl)))
                    refine step_run (wanted_none rfl) (v := .int .i64 1) (w' := W) ?_ (hK _ _ hC trivial trivial (by simp only [put_otherX (show (108 : Nat) ≠ 110 by decide), put_otherX (show (98 : Nat) ≠ 110 by decide), put_otherX (show (109 : Nat) ≠ 110 by decide), put_otherX (show (16 : Nat) ≠ 110 by decide), put_otherX (show (17 : Nat) ≠ 110 by decide), put_selfX (show 110 < a.tmps.size by rw [HSZ]; omega)]; exact hJ.to_s1 (hW 10 (by kernel_rfl))))
                    (try unfold erRW); unfold erVX at e1
                    clear hsz HSZ k1 k2 k3 k4 k5 k6 k7 k8
                    go_simp
                  · have HSZ : a.tmps.size = 144 := hsz
                    have hBW : base2 ≤ W.heap.size := (by have := hC.size; have := HB10.out; omega)
                    refine step_run (wanted_none rfl) (v := .pointer (some ⟨W.heap.size, 0, none⟩)) (w' := W.alloc (.cells eRow0 38)) ?_ (hK _ _ (hC.trans (Grew.refl _ _) (Untouched.alloc _)) trivial trivial (by simp only [put_otherX (show (108 : Nat) ≠ 16 by decide), put_otherX (show (98 : Nat) ≠ 16 by decide), put_otherX (show (109 : Nat) ≠ 16 by decide), put_otherX (show (110 : Nat) ≠ 16 by decide), put_otherX (show (17 : Nat) ≠ 16 by decide), put_selfX (show 16 < a.tmps.size by rw [HSZ]; omega)]; exact hJ.to_al hL hBW eRow_z (fun h => h.then_ ((Below.refl _ _).alloc (Nat.le_refl _) _)) (fun a h => ⟨h.then_ ((Below.refl _ _).alloc (Nat.le_refl _) _), fun k hm => by cases hm⟩)))
                    clear hsz HSZ hBW
                    go_simp
                  · have HSZ : a.tmps.size = 144 := hsz
                    obtain ⟨a2, q2, X2, k1, k2, k3, k4, k5, k6, k7, k8⟩ := hJ.ex
                    obtain ⟨m1, m2, m3, m4⟩ := k6 (hW 13 (by kernel_rfl))
                    have e1 := eval_of m1
                    have e2 := eval_of (k3 (hW 11 (by kernel_rfl)))
                    refine step_put_row rfl 38 _ _ rfl q2 (erRW a2) e1 e2 38 X2 m3 (iE _ rfl _ _ _ _) (m4.trans eRow_z.symm) (eRow_one _ _ _ _ _) ?_
                    intro W' k9 g9 s9
                    exact hK _ _ (hC.trans (F' := [q2]) (fun k hk => .inr (by rw [List.mem_singleton.1 hk]; have := HB10.out; omega)) (Untouched.of_grown (F := [q2]) g9 (fun k hk => by injection hk with hk; subst hk; exact List.mem_singleton.2 rfl))) trivial trivial (by simp only [put_none]; exact hJ.to_st (hW 11 (by kernel_rfl)) (hW 13 (by kernel_rfl)) m1 (k3 (hW 11 (by kernel_rfl))) eRow_z k9 (fun a h hq => set_minex h (Untouched.of_grown (F := [q2]) g9 (fun k hk => by injection hk with hk; subst hk; exact List.mem_singleton.2 rfl)) (fun hm => by have := h.lt _ hm; have := FLb.out _ hm; omega) (Nat.le_trans WBb.out m2)))
                  · have HSZ : a.tmps.size = 144 := hsz
                    obtain ⟨a2, q2, X2, k1, k2, k3, k4, k5, k6, k7, k8⟩ := hJ.ex
                    have e1 := slot_of (k4 (hW 12 (by kernel_rfl)))
                    refine step_run (wanted_none rfl) (v := .int .i64 1) (w' := W) ?_ (hK _ _ hC trivial trivial (by simp only [put_otherX (show (108 : Nat) ≠ 17 by decide), put_otherX (show (98 : Nat) ≠ 17 by decide), put_otherX (show (109 : Nat) ≠ 17 by decide), put_otherX (show (110 : Nat) ≠ 17 by decide), put_otherX (show (16 : Nat) ≠ 17 by decide), put_selfX (show 17 < a.tmps.size by rw [HSZ]; omega)]; exact hJ.to_ae (hW 12 (by kernel_rfl))))
                    clear hsz HSZ k1 k2 k3 k4 k5 k6 k7 k8
                    go_simp
                · intro f W hC hv L hL hJ'
                  obtain ⟨aE, hJ, hfr⟩ := hJ'
                  obtain ⟨a2, q2, X2, k1, k2, k3, k4, k5, k6, k7, k8⟩ := hJ.ex
                  obtain ⟨-, jP⟩ := k1 (hL 9 (by decide))
                  obtain ⟨m1, m2, m3, m4⟩ := k6 (hL 13 (by decide))
                  have m7 := k7 (hL 14 (by decide))
                  have m8 := k8 (hL 9 (by decide)) (hL 13 (by decide))
                  rw [m7] at m3
                  have hfa : f 16 = .pointer (some ⟨q2, 0, none⟩) := by rw [← hfr 16]; exact m1
                  have hfe : f 17 = .int .i64 1 := by rw [← hfr 17]; exact k5 (hL 15 (by decide))
                  simp only [framed, List.foldl_cons, List.foldl_nil, List.setIfInBounds_toArray, List.set_cons_succ, List.set_cons_zero, hfa, hfe]
                  clear hv hJ hfr hL k1 k2 k3 k4 k5 k6 k7 k8 m1 m4 m7 hfa hfe
                  have B11 := hid_ jP
                  have U11 := hid_ hC
                  have A11x := hid_ (A10.out.other U11.out (fun k hk hm => T9.out.dis k hm hk) B11.out.below)
                  clear hC jP m3 m8
                  refine hK9 _ _ ?_
                  clear hK9 K9
                  go_wp2
                  go_roundw
                  case rel => exact ⟨j + 1, N, La, Lb, Fa1, Fb1, by have := HLT.out; omega, by go_num, hid_ ⟨A11x.out, B11.out, T9.out.dis⟩, hid_ HNM.out.skip⟩
                  case measure => have := HLT.out; simp [intOf]; omega
            · have HGOOD := hid_ hbad
              clear hbad
              have hcn : (((⟨1, (j1 : Int), 1, (j1 : Int), none, [], 0⟩ : HeadV) : HeadV).c.toNat, ((⟨1, (j1 : Int), 1, (j1 : Int), none, [], 0⟩ : HeadV) : HeadV).n.toNat) = (1, j + 1) := by
                show ((1 : Int).toNat, ((j1 : Nat) : Int).toNat) = (1, j + 1)
                rw [HJ1.out]
                rfl
              have NIN := hid_ (show (((⟨1, (j1 : Int), 1, (j1 : Int), none, [], 0⟩ : HeadV) : HeadV).c.toNat, ((⟨1, (j1 : Int), 1, (j1 : Int), none, [], 0⟩ : HeadV) : HeadV).n.toNat) ∉ La.map cn ∧ (((⟨1, (j1 : Int), 1, (j1 : Int), none, [], 0⟩ : HeadV) : HeadV).c.toNat, ((⟨1, (j1 : Int), 1, (j1 : Int), none, [], 0⟩ : HeadV) : HeadV).n.toNat) ∉ Lb.map cn by rw [hcn]; exact HNM.out.new 1)
              clear hcn
              obtain ⟨Kk, hKk⟩ : ∃ x, bV true K N Y = x := ⟨_, rfl⟩
              have KKL := hid_ (show Kk.length = 32 by rw [← hKk]; exact bV_len _ _ _ _)
              have HKY := hid_ hKk
              have HKX := hid_ (show bV true K (N.map (xorU u)) (xorU u Y) = Kk by rw [bV_xorU]; exact hKk)
              have PLa := hid_ (esP64r q.del Z (by rw [ZL.out]; omega))
              have PLb := hid_ (esP64r q.del ZR (by rw [ZRL.out]; have := R60.out; omega))
              obtain ⟨S, hS⟩ : ∃ x, drawB K 1 (La.length + 1) (64 + 8) = x := ⟨_, rfl⟩
              have SL80 := hid_ (show S.length = 80 by rw [← hS, drawB_len])
              have HSA := hid_ (show sB true K La ((⟨1, (j1 : Int), 1, (j1 : Int), none, [], 0⟩ : HeadV) : HeadV).e ((⟨1, (j1 : Int), 1, (j1 : Int), none, [], 0⟩ : HeadV) : HeadV).c ((⟨1, (j1 : Int), 1, (j1 : Int), none, [], 0⟩ : HeadV) : HeadV).n (esX true K N Y (⟨1, (j1 : Int), 1, (j1 : Int), none, [], 0⟩ : HeadV)) (esP q.del Z) = S by rw [sB_id K La _ _ _ _ _ (HeadV.slOk HOK9.out) NIN.out.1, PLa.out]; exact hS)
              have HSB := hid_ (show sB true K Lb ((⟨1, (j1 : Int), 1, (j1 : Int), none, [], 0⟩ : HeadV) : HeadV).e ((⟨1, (j1 : Int), 1, (j1 : Int), none, [], 0⟩ : HeadV) : HeadV).c ((⟨1, (j1 : Int), 1, (j1 : Int), none, [], 0⟩ : HeadV) : HeadV).n (esX true K (N.map (xorU u)) (xorU u Y) (⟨1, (j1 : Int), 1, (j1 : Int), none, [], 0⟩ : HeadV)) (esP q.del ZR) = S by rw [sB_id K Lb _ _ _ _ _ (HeadV.slOk HOK9.out) NIN.out.2, PLb.out, HNM.out.blen]; exact hS)
              have LEa := hid_ (sL_id K La ((⟨1, (j1 : Int), 1, (j1 : Int), none, [], 0⟩ : HeadV) : HeadV).e ((⟨1, (j1 : Int), 1, (j1 : Int), none, [], 0⟩ : HeadV) : HeadV).c ((⟨1, (j1 : Int), 1, (j1 : Int), none, [], 0⟩ : HeadV) : HeadV).n (esX true K N Y (⟨1, (j1 : Int), 1, (j1 : Int), none, [], 0⟩ : HeadV)) (esP q.del Z) (HeadV.slOk HOK9.out) NIN.out.1)
              have LEb := hid_ (sL_id K Lb ((⟨1, (j1 : Int), 1, (j1 : Int), none, [], 0⟩ : HeadV) : HeadV).e ((⟨1, (j1 : Int), 1, (j1 : Int), none, [], 0⟩ : HeadV) : HeadV).c ((⟨1, (j1 : Int), 1, (j1 : Int), none, [], 0⟩ : HeadV) : HeadV).n (esX true K (N.map (xorU u)) (xorU u Y) (⟨1, (j1 : Int), 1, (j1 : Int), none, [], 0⟩ : HeadV)) (esP q.del ZR) (HeadV.slOk HOK9.out) NIN.out.2)
              obtain ⟨N2, hN2⟩ : ∃ x, bN true N Y = x := ⟨_, rfl⟩
              have HN2 := hid_ hN2
              have HN2x := hid_ (show bN true (N.map (xorU u)) (xorU u Y) = N2.map (xorU u) by rw [bN_xorU, hN2])
              have HN2l := hid_ (show N2.length ≤ N.length + 1 by rw [← hN2]; exact bN_len _ _ _)
              obtain ⟨La2, hLa2⟩ : ∃ x, sL true K La ((⟨1, (j1 : Int), 1, (j1 : Int), none, [], 0⟩ : HeadV) : HeadV).e ((⟨1, (j1 : Int), 1, (j1 : Int), none, [], 0⟩ : HeadV) : HeadV).c ((⟨1, (j1 : Int), 1, (j1 : Int), none, [], 0⟩ : HeadV) : HeadV).n (esX true K N Y (⟨1, (j1 : Int), 1, (j1 : Int), none, [], 0⟩ : HeadV)) (esP q.del Z) = x := ⟨_, rfl⟩
              have HLA2 := hid_ hLa2
              obtain ⟨Lb2, hLb2⟩ : ∃ x, sL true K Lb ((⟨1, (j1 : Int), 1, (j1 : Int), none, [], 0⟩ : HeadV) : HeadV).e ((⟨1, (j1 : Int), 1, (j1 : Int), none, [], 0⟩ : HeadV) : HeadV).c ((⟨1, (j1 : Int), 1, (j1 : Int), none, [], 0⟩ : HeadV) : HeadV).n (esX true K (N.map (xorU u)) (xorU u Y) (⟨1, (j1 : Int), 1, (j1 : Int), none, [], 0⟩ : HeadV)) (esP q.del ZR) = x := ⟨_, rfl⟩
              have HLB2 := hid_ hLb2
              rw [hLa2] at LEa
              rw [hLb2] at LEb
              clear hKk hS hN2 hLa2 hLb2
              have FLR := hid_ HF2.out
              have FLV := hid_ (show (∀ k ∈ Fa1, k < wR.heap.size) ∧ ∀ k ∈ Fb1, k < g12 from ⟨HF2.out.1, fun k hk => by have := HF2.out.2 k hk; have := W7.out.2; omega⟩)
              have FLa := hid_ BS.out.2.2.1
              have WBa := hid_ BS.out.1
              have A9M := hid_ T9.out.a
              rw [put_none]
              refine region_byJF [86, 87, 88, 89, 90, 91, 92, 93, 94, 95, 85, 96, 97, 14, 15] (fun W => Untouched Fa1 w9 W) (fun _ _ => True) (fun jR_ vR_ (_ : World) => (match jR_ with | 0 => vR_ = .pointer (some ⟨va, 0, none⟩) | 1 => vR_ = .slice A8 mn c8 | 2 => vR_ = .agg (⟨1, (j1 : Int), 1, (j1 : Int), none, [], 0⟩ : HeadV).row | 3 => vR_ = .slice A11 ma c11 | 4 => vR_ = .slice (some ⟨b, off, none⟩) n1 c1 | 5 => vR_ = .int .i64 (j : Int) | 6 => vR_ = .pointer (some ⟨b, off + j * 3, none⟩) | 7 => vR_ = .pointer (some ⟨b, off + j * 3 + 2, none⟩) | 8 => vR_ = .bool q.del | _ => True : Prop)) (fun D a W => XeJ (slVX Kk (⟨1, (j1 : Int), 1, (j1 : Int), none, [], 0⟩ : HeadV) 80) (slRW Kk (⟨1, (j1 : Int), 1, (j1 : Int), none, [], 0⟩ : HeadV) 80) (.int .i64 0) 38 base (fun W => MineX w true va spa nma kna K N La Fa1 W) (SlP w va spa nma kna K N2 La2 80 S base Fa1) slBs 38 (D 9) (D 10) (D 11) (D 12) (D 13) (D 14) (D 15) (a.tmps.getD 95 undef) (a.tmps.getD 85 undef) (a.tmps.getD 96 undef) (a.tmps.getD 97 undef) (a.tmps.getD 14 undef) (a.tmps.getD 15 undef) W) (by kernel_rfl) (by kernel_rfl) (by kernel_rfl) (by kernel_rfl) (fun j v w w' hT hr => hr) (fun j v w hlt hj _ => ?_) ⟨rfl, rfl, rfl, Nat.le_refl _, fun _ _ _ => rfl⟩ ?_ (XeJ.start (MineX.then_ A9M.out ((Below.refl _ _).drew))) ?_
              · rcases j with _ | _ | _ | _ | _ | _ | _ | _ | _ | _ | _ | _ | _ | _ | _ | _ | j
                all_goals first
                  | (exfalso; simp [dstOf] at hj; done)
                  | trivial
              · refine ⟨fun D a W hC hd hsz hf hv hJ hL hW K hK => ?_, fun D a W hC hd hsz hf hv hJ hL hW K hK => ?_, fun D a W hC hd hsz hf hv hJ hL hW K hK => ?_, fun D a W hC hd hsz hf hv hJ hL hW K hK => ?_, fun D a W hC hd hsz hf hv hJ hL hW K hK => ?_, fun D a W hC hd hsz hf hv hJ hL hW K hK => ?_, fun D a W hC hd hsz hf hv hJ hL hW K hK => ?_, fun D a W hC hd hsz hf hv hJ hL hW K hK => ?_, fun D a W hC hd hsz hf hv hJ hL hW K hK => ?_, fun D a W hC hd hsz hf hv hJ hL hW K hK => ?_, fun D a W hC hd hsz hf hv hJ hL hW K hK => ?_, fun D a W hC hd hsz hf hv hJ hL hW K hK => ?_, fun D a W hC hd hsz hf hv hJ hL hW K hK => ?_, fun D a W hC hd hsz hf hv hJ hL hW K hK => ?_, fun D a W hC hd hsz hf hv hJ hL hW K hK => ?_, fun D a W hC hd hsz hf hv hJ hL hW K hK => ?_, trivial⟩
                · have HSZ : a.tmps.size = 144 := hsz
                  have e1 := slot_of (a := a) (s := 5) (v := .pointer (some ⟨va, 0, none⟩)) (hf 5 (by kernel_rfl))
                  refine step_run (wanted_none rfl) (v := .pointer (some ⟨va, 0, none⟩)) (w' := W) ?_ (hK _ _ hC trivial rfl (by simp only [put_otherX (show (95 : Nat) ≠ 86 by decide), put_otherX (show (85 : Nat) ≠ 86 by decide), put_otherX (show (96 : Nat) ≠ 86 by decide), put_otherX (show (97 : Nat) ≠ 86 by decide), put_otherX (show (14 : Nat) ≠ 86 by decide), put_otherX (show (15 : Nat) ≠ 86 by decide)]; exact hJ))
                  clear hsz HSZ
                  go_simp
                · have HSZ : a.tmps.size = 144 := hsz
                  have e1 := slot_of (a := a) (s := 8) (v := .slice A8 mn c8) (hf 8 (by kernel_rfl))
                  refine step_run (wanted_none rfl) (v := .slice A8 mn c8) (w' := W) ?_ (hK _ _ hC trivial rfl (by simp only [put_otherX (show (95 : Nat) ≠ 87 by decide), put_otherX (show (85 : Nat) ≠ 87 by decide), put_otherX (show (96 : Nat) ≠ 87 by decide), put_otherX (show (97 : Nat) ≠ 87 by decide), put_otherX (show (14 : Nat) ≠ 87 by decide), put_otherX (show (15 : Nat) ≠ 87 by decide)]; exact hJ))
                  clear hsz HSZ
                  go_simp
                · have HSZ : a.tmps.size = 144 := hsz
                  have e1 := slot_of (a := a) (s := 13) (v := .pointer (some ⟨g13, 0, none⟩)) (hf 13 (by kernel_rfl))
                  exact step_load_rowW (wanted_none rfl) 35 (.tmp 13) rfl g13 (eval_of (hf 13 (by kernel_rfl))) 35 (⟨1, (j1 : Int), 1, (j1 : Int), none, [], 0⟩ : HeadV).row (H9.out.untouched hC n13.out.1) _ Tryd.underlying35 rfl (iHead _) (hK _ _ hC trivial rfl (by simp only [put_otherX (show (95 : Nat) ≠ 88 by decide), put_otherX (show (85 : Nat) ≠ 88 by decide), put_otherX (show (96 : Nat) ≠ 88 by decide), put_otherX (show (97 : Nat) ≠ 88 by decide), put_otherX (show (14 : Nat) ≠ 88 by decide), put_otherX (show (15 : Nat) ≠ 88 by decide)]; exact hJ))
                · have HSZ : a.tmps.size = 144 := hsz
                  have e1 := slot_of (a := a) (s := 11) (v := .slice A11 ma c11) (hf 11 (by kernel_rfl))
                  refine step_run (wanted_none rfl) (v := .slice A11 ma c11) (w' := W) ?_ (hK _ _ hC trivial rfl (by simp only [put_otherX (show (95 : Nat) ≠ 89 by decide), put_otherX (show (85 : Nat) ≠ 89 by decide), put_otherX (show (96 : Nat) ≠ 89 by decide), put_otherX (show (97 : Nat) ≠ 89 by decide), put_otherX (show (14 : Nat) ≠ 89 by decide), put_otherX (show (15 : Nat) ≠ 89 by decide)]; exact hJ))
                  clear hsz HSZ
                  go_simp
                · have HSZ : a.tmps.size = 144 := hsz
                  have e1 := slot_of (a := a) (s := 0) (v := .slice (some ⟨b, off, none⟩) n1 c1) (hf 0 (by kernel_rfl))
                  refine step_run (wanted_none rfl) (v := .slice (some ⟨b, off, none⟩) n1 c1) (w' := W) ?_ (hK _ _ hC trivial rfl (by simp only [put_otherX (show (95 : Nat) ≠ 90 by decide), put_otherX (show (85 : Nat) ≠ 90 by decide), put_otherX (show (96 : Nat) ≠ 90 by decide), put_otherX (show (97 : Nat) ≠ 90 by decide), put_otherX (show (14 : Nat) ≠ 90 by decide), put_otherX (show (15 : Nat) ≠ 90 by decide)]; exact hJ))
                  clear hsz HSZ
                  go_simp
                · have HSZ : a.tmps.size = 144 := hsz
                  have e1 := slot_of (a := a) (s := 7) (v := .int .i64 (j : Int)) (hf 7 (by kernel_rfl))
                  refine step_run (wanted_none rfl) (v := .int .i64 (j : Int)) (w' := W) ?_ (hK _ _ hC trivial rfl (by simp only [put_otherX (show (95 : Nat) ≠ 91 by decide), put_otherX (show (85 : Nat) ≠ 91 by decide), put_otherX (show (96 : Nat) ≠ 91 by decide), put_otherX (show (97 : Nat) ≠ 91 by decide), put_otherX (show (14 : Nat) ≠ 91 by decide), put_otherX (show (15 : Nat) ≠ 91 by decide)]; exact hJ))
                  clear hsz HSZ
                  go_simp
                · have HSZ : a.tmps.size = 144 := hsz
                  have e1 := slot_of (a := a) (s := 90) (v := .slice (some ⟨b, off, none⟩) n1 c1) (hv 4 (by kernel_rfl))
                  have e2 := slot_of (a := a) (s := 91) (v := .int .i64 (j : Int)) (hv 5 (by kernel_rfl))
                  refine step_run (wanted_none rfl) (v := .pointer (some ⟨b, off + j * 3, none⟩)) (w' := W) ?_ (hK _ _ hC trivial rfl (by simp only [put_otherX (show (95 : Nat) ≠ 92 by decide), put_otherX (show (85 : Nat) ≠ 92 by decide), put_otherX (show (96 : Nat) ≠ 92 by decide), put_otherX (show (97 : Nat) ≠ 92 by decide), put_otherX (show (14 : Nat) ≠ 92 by decide), put_otherX (show (15 : Nat) ≠ 92 by decide)]; exact hJ))
                  clear hsz HSZ
                  go_simp
                · have HSZ : a.tmps.size = 144 := hsz
                  have e1 := slot_of (a := a) (s := 92) (v := .pointer (some ⟨b, off + j * 3, none⟩)) (hv 6 (by kernel_rfl))
                  refine step_run (wanted_none rfl) (v := .pointer (some ⟨b, off + j * 3 + 2, none⟩)) (w' := W) ?_ (hK _ _ hC trivial rfl (by simp only [put_otherX (show (95 : Nat) ≠ 93 by decide), put_otherX (show (85 : Nat) ≠ 93 by decide), put_otherX (show (96 : Nat) ≠ 93 by decide), put_otherX (show (97 : Nat) ≠ 93 by decide), put_otherX (show (14 : Nat) ≠ 93 by decide), put_otherX (show (15 : Nat) ≠ 93 by decide)]; exact hJ))
                  clear hsz HSZ
                  go_simp
                · have HSZ : a.tmps.size = 144 := hsz
                  have e1 := slot_of (a := a) (s := 93) (v := .pointer (some ⟨b, off + j * 3 + 2, none⟩)) (hv 7 (by kernel_rfl))
                  have c2 := C2.out W Fa1 hC NBF.out.1
                  refine step_run (wanted_none rfl) (v := .bool q.del) (w' := W) ?_ (hK _ _ hC trivial rfl (by simp only [put_otherX (show (95 : Nat) ≠ 94 by decide), put_otherX (show (85 : Nat) ≠ 94 by decide), put_otherX (show (96 : Nat) ≠ 94 by decide), put_otherX (show (97 : Nat) ≠ 94 by decide), put_otherX (show (14 : Nat) ≠ 94 by decide), put_otherX (show (15 : Nat) ≠ 94 by decide)]; exact hJ))
                  clear hsz HSZ
                  go_simp
                · have HSZ : a.tmps.size = 144 := hsz
                  have e1 := slot_of (a := a) (s := 86) (v := .pointer (some ⟨va, 0, none⟩)) (hv 0 (by kernel_rfl))
                  have e2 := slot_of (a := a) (s := 87) (v := .slice A8 mn c8) (hv 1 (by kernel_rfl))
                  have e3 := slot_of (a := a) (s := 88) (v := .agg (⟨1, (j1 : Int), 1, (j1 : Int), none, [], 0⟩ : HeadV).row) (hv 2 (by kernel_rfl))
                  have e4 := slot_of (a := a) (s := 89) (v := .slice A11 ma c11) (hv 3 (by kernel_rfl))
                  have e5 := slot_of (a := a) (s := 94) (v := .bool q.del) (hv 8 (by kernel_rfl))
                  have M := hJ.no hL
                  have hsz9 : base ≤ W.heap.size := by have := hC.size; have := HB9.out; omega
                  have cs := seal_own M.vs A8 mn c8 Y YL.out (by have := HGOOD.out; omega) (by omega) (O89.out.cap.1) (O89.out.cap.2) ((O89.out.untouched hC (fun k hk => FLR.out.1 k hk)).rd.1) (⟨1, (j1 : Int), 1, (j1 : Int), none, [], 0⟩ : HeadV) HOK9.out (fun hn => absurd hn (Nat.lt_irrefl 0)) A11 ma c11 Z ZL.out (by have := R60.out; omega) ((O119.out.untouched hC (fun k hk => FLV.out.1 k hk)).rd.1) q.del (by have := HNM.out.len; omega) (by have := HNM.out.len; omega) (M.tab HT.out hg1) (M.glt hg1) (M.ptab HPT.out hg2) (M.glt hg2) (M.gF hg1) NIN.out.1
                  unfold EsW at cs
                  rw [HSA.out, HKY.out, SL80.out, HN2.out, HLA2.out] at cs
                  refine step_callx 7 #[.pointer (some ⟨va, 0, none⟩), .slice A8 mn c8, .agg (⟨1, (j1 : Int), 1, (j1 : Int), none, [], 0⟩ : HeadV).row, .slice A11 ma c11, .bool q.del] (wanted_none rfl) (w' := W) ?_ (cs.mono fun e W2 hh => ?_)
                  · clear hsz HSZ
                    go_simp
                  · obtain ⟨pa, pc, sa, sc, F5, rfl, hOp, hOs, hnp, hns, hne, hV, hG, hU⟩ := hh
                    exact ⟨_, rfl, hK _ _ (hC.trans (Grew.refl _ _) hU) trivial trivial (by simp only [put_otherX (show (85 : Nat) ≠ 95 by decide), put_otherX (show (96 : Nat) ≠ 95 by decide), put_otherX (show (97 : Nat) ≠ 95 by decide), put_otherX (show (14 : Nat) ≠ 95 by decide), put_otherX (show (15 : Nat) ≠ 95 by decide), put_selfX (show 95 < a.tmps.size by rw [HSZ]; omega)]; exact hJ.to_x hL ⟨pa, pc, sa, sc, F5⟩ ⟨M.next hV hG hU, hOs.lower hsz9, fun k hk => (hG k hk).imp id (fun h => Nat.le_trans hsz9 h)⟩ (fun k h1 h2 => hU.block k h2 (fun hm => by have := FLa.out _ hm; omega)) (fun k hm => (by rcases List.mem_append.1 hm with hm | hm; exact (hG k hm).imp (FLa.out k) id; exact .inr (by simp only [blkOf, Option.mem_toList, Option.map_eq_some_iff] at hm; obtain ⟨x, ex, rfl⟩ := hm; exact (World.ownsRow.lt hOs x.block (by rw [show sa = some x from ex]; rfl)).1))))⟩
                · have HSZ : a.tmps.size = 144 := hsz
                  refine step_run (wanted_none rfl) (v := a.tmps.getD 95 undef) (w' := W) ?_ (hK _ _ hC trivial trivial (by simp only [put_otherX (show (95 : Nat) ≠ 85 by decide), put_otherX (show (96 : Nat) ≠ 85 by decide), put_otherX (show (97 : Nat) ≠ 85 by decide), put_otherX (show (14 : Nat) ≠ 85 by decide), put_otherX (show (15 : Nat) ≠ 85 by decide), put_selfX (show 85 < a.tmps.size by rw [HSZ]; omega)]; exact hJ.to_mv (hW 9 (by kernel_rfl))))
                  clear hsz HSZ
                  go_simp
                · have HSZ : a.tmps.size = 144 := hsz
                  obtain ⟨a2, q2, X2, k1, k2, k3, k4, k5, k6, k7, k8⟩ := hJ.ex
                  have e1 := slot_of (k2 (hW 10 (by kernel_rfl)))
                  refine step_run (wanted_none rfl) (v := .agg (slRW Kk (⟨1, (j1 : Int), 1, (j1 : Int), none, [], 0⟩ : HeadV) 80 a2)) (w' := W) ?_ (hK _ _ hC trivial trivial (by simp only [put_otherX (show (95 : Nat) ≠ 96 by decide), put_otherX (show (85 : Nat) ≠ 96 by decide), put_otherX (show (97 : Nat) ≠ 96 by decide), put_otherX (show (14 : Nat) ≠ 96 by decide), put_otherX (show (15 : Nat) ≠ 96 by decide), put_selfX (show 96 < a.tmps.size by rw [HSZ]; omega)]; exact hJ.to_s0 (hW 10 (by kernel_rfl)) a2 (k2 (hW 10 (by kernel_rfl))) (fun _ _ => slVX_inj)))
                  (try unfold slRW); unfold slVX at e1
                  clear hsz HSZ k1 k2 k3 k4 k5 k6 k7 k8
                  go_simp
                · have HSZ : a.tmps.size = 144 := hsz
                  obtain ⟨a2, q2, X2, k1, k2, k3, k4, k5, k6, k7, k8⟩ := hJ.ex
                  have e1 := slot_of (k2 (hW 10 (by kernel_rfl)))
                  refine step_run (wanted_none rfl) (v := .int .i64 0) (w' := W) ?_ (hK _ _ hC trivial trivial (by simp only [put_otherX (show (95 : Nat) ≠ 97 by decide), put_otherX (show (85 : Nat) ≠ 97 by decide), put_otherX (show (96 : Nat) ≠ 97 by decide), put_otherX (show (14 : Nat) ≠ 97 by decide), put_otherX (show (15 : Nat) ≠ 97 by decide), put_selfX (show 97 < a.tmps.size by rw [HSZ]; omega)]; exact hJ.to_s1 (hW 10 (by kernel_rfl))))
                  (try unfold slRW); unfold slVX at e1
                  clear hsz HSZ k1 k2 k3 k4 k5 k6 k7 k8
                  go_simp
                · have HSZ : a.tmps.size = 144 := hsz
                  have hBW : base ≤ W.heap.size := (by have := hC.size; have := HB9.out; omega)
                  refine step_run (wanted_none rfl) (v := .pointer (some ⟨W.heap.size, 0, none⟩)) (w' := W.alloc (.cells eRow0 38)) ?_ (hK _ _ (hC.trans (Grew.refl _ _) (Untouched.alloc _)) trivial trivial (by simp only [put_otherX (show (95 : Nat) ≠ 14 by decide), put_otherX (show (85 : Nat) ≠ 14 by decide), put_otherX (show (96 : Nat) ≠ 14 by decide), put_otherX (show (97 : Nat) ≠ 14 by decide), put_otherX (show (15 : Nat) ≠ 14 by decide), put_selfX (show 14 < a.tmps.size by rw [HSZ]; omega)]; exact hJ.to_al hL hBW eRow_z (fun h => h.then_ ((Below.refl _ _).alloc (Nat.le_refl _) _)) (fun a h => ⟨h.alloc_ ((Below.refl _ _).alloc (Nat.le_refl _) _), h.lt⟩)))
                  clear hsz HSZ hBW
                  go_simp
                · have HSZ : a.tmps.size = 144 := hsz
                  obtain ⟨a2, q2, X2, k1, k2, k3, k4, k5, k6, k7, k8⟩ := hJ.ex
                  obtain ⟨m1, m2, m3, m4⟩ := k6 (hW 13 (by kernel_rfl))
                  have e1 := eval_of m1
                  have e2 := eval_of (k3 (hW 11 (by kernel_rfl)))
                  refine step_put_row rfl 38 _ _ rfl q2 (slRW Kk (⟨1, (j1 : Int), 1, (j1 : Int), none, [], 0⟩ : HeadV) 80 a2) e1 e2 38 X2 m3 (iE _ KKL.out _ _ _ _) (m4.trans (eRow_size _ KKL.out _ _ _ _).symm) (eRow_one _ _ _ _ _) ?_
                  intro W' k9 g9 s9
                  exact hK _ _ (hC.trans (F' := [q2]) (fun k hk => .inr (by rw [List.mem_singleton.1 hk]; have := HB9.out; omega)) (Untouched.of_grown (F := [q2]) g9 (fun k hk => by injection hk with hk; subst hk; exact List.mem_singleton.2 rfl))) trivial trivial (by simp only [put_none]; exact hJ.to_st (hW 11 (by kernel_rfl)) (hW 13 (by kernel_rfl)) m1 (k3 (hW 11 (by kernel_rfl))) (eRow_size _ KKL.out _ _ _ _) k9 (fun a h hq => h.keep (Untouched.of_grown (F := [q2]) g9 (fun k hk => by injection hk with hk; subst hk; exact List.mem_singleton.2 rfl)) hq (Nat.le_trans WBa.out m2)))
                · have HSZ : a.tmps.size = 144 := hsz
                  obtain ⟨a2, q2, X2, k1, k2, k3, k4, k5, k6, k7, k8⟩ := hJ.ex
                  have e1 := slot_of (k4 (hW 12 (by kernel_rfl)))
                  refine step_run (wanted_none rfl) (v := .int .i64 0) (w' := W) ?_ (hK _ _ hC trivial trivial (by simp only [put_otherX (show (95 : Nat) ≠ 15 by decide), put_otherX (show (85 : Nat) ≠ 15 by decide), put_otherX (show (96 : Nat) ≠ 15 by decide), put_otherX (show (97 : Nat) ≠ 15 by decide), put_otherX (show (14 : Nat) ≠ 15 by decide), put_selfX (show 15 < a.tmps.size by rw [HSZ]; omega)]; exact hJ.to_ae (hW 12 (by kernel_rfl))))
                  clear hsz HSZ k1 k2 k3 k4 k5 k6 k7 k8
                  go_simp
              · intro f W hC hv L hL hJ'
                obtain ⟨aE, hJ, hfr⟩ := hJ'
                obtain ⟨a2, q2, X2, k1, k2, k3, k4, k5, k6, k7, k8⟩ := hJ.ex
                obtain ⟨-, jP⟩ := k1 (hL 9 (by decide))
                obtain ⟨m1, m2, m3, m4⟩ := k6 (hL 13 (by decide))
                have m7 := k7 (hL 14 (by decide))
                have m8 := k8 (hL 9 (by decide)) (hL 13 (by decide))
                rw [m7] at m3
                have hfa : f 14 = .pointer (some ⟨q2, 0, none⟩) := by rw [← hfr 14]; exact m1
                have hfe : f 15 = .int .i64 0 := by rw [← hfr 15]; exact k5 (hL 15 (by decide))
                simp only [framed, List.foldl_cons, List.foldl_nil, List.setIfInBounds_toArray, List.set_cons_succ, List.set_cons_zero, hfa, hfe]
                clear hv hJ hfr hL k1 k2 k3 k4 k5 k6 k7 k8 m1 m4 m7 hfa hfe
                obtain ⟨pa, pc, sa, sc, F5⟩ := a2
                have A10 := hid_ jP.m
                have OS10 := hid_ (show Own8 W base (.slice sa 80 sc) S from jP.o)
                have GF5 := hid_ (show ∀ k ∈ F5, k ∈ Fa1 ∨ base ≤ k from jP.f)
                have E10 := hid_ (show Bk W q2 38 (eRow Kk ⟨1, (j1 : Int), 1, (j1 : Int), pa, [], pc⟩ sa 80 sc) from m3)
                have U10 := hid_ hC
                obtain ⟨w10, hw10⟩ : ∃ x, x = W := ⟨_, rfl⟩
                subst hw10
                have X10 := hid_ (A10.out.below)
                have B10M := hid_ (T9.out.b.other U10.out (fun k hk hm => T9.out.dis k hk hm) X10.out)
                have H10 := hid_ (H9.out.untouched U10.out n13.out.1)
                have O9A := hid_ (O99.out.untouched U10.out (fun k hk => FLR.out.1 k hk))
                have O12A := hid_ (O129.out.untouched U10.out (fun k hk => by have := FLR.out.1 k hk; have := W7.out.2; omega))
                have C2B : Hid (∀ W, Untouched Fb1 w10 W → W.cell? ⟨b, off + j * 3 + 2, none⟩ = some (.bool q.del)) := hid_ (fun W hU => (World.cell?_of_block (hU.block b (by have := HBL.out; have := X10.out.size; omega) NBF.out.2)).trans (C2.out w10 Fa1 U10.out NBF.out.1))
                obtain ⟨base2, hbase2⟩ : ∃ x, w10.heap.size = x := ⟨_, rfl⟩
                have HB10 := hid_ hbase2
                have FLb := hid_ (show ∀ k ∈ Fb1, k < base2 from fun k hk => by have := B10M.out.lt k hk; omega)
                have WBb := hid_ (show w.heap.size ≤ base2 by rw [← hbase2]; exact X10.out.size)
                have Q2 := hid_ (show base ≤ q2 from m2)
                have DFB := hid_ (show ∀ k ∈ F5, k ∉ Fb1 from fun k hk hm => (GF5.out k hk).elim (fun h => T9.out.dis k h hm) (fun h => by have := BS.out.2.2.2 k hm; omega))
                clear hC jP m3 m8 m2 hbase2 C2
                refine hK9 _ _ ?_
                clear hK9 K9
                go_upto_region 16 with fail
                rename_i K9 hK9
                obtain ⟨QQ, hQQ⟩ : ∃ x, x = q2 := ⟨_, rfl⟩
                subst hQQ
                refine region_byJF [99, 100, 101, 102, 103, 104, 105, 106, 107, 108, 98, 109, 110, 16, 17] (fun W => Untouched Fb1 w10 W) (fun _ _ => True) (fun jR_ vR_ (_ : World) => (match jR_ with | 0 => vR_ = .pointer (some ⟨vb, 0, none⟩) | 1 => vR_ = .slice A9 mn c9 | 2 => vR_ = .agg (⟨1, (j1 : Int), 1, (j1 : Int), none, [], 0⟩ : HeadV).row | 3 => vR_ = .slice (some ⟨g12, 0, none⟩) r r | 4 => vR_ = .slice (some ⟨b, off, none⟩) n1 c1 | 5 => vR_ = .int .i64 (j : Int) | 6 => vR_ = .pointer (some ⟨b, off + j * 3, none⟩) | 7 => vR_ = .pointer (some ⟨b, off + j * 3 + 2, none⟩) | 8 => vR_ = .bool q.del | _ => True : Prop)) (fun D a W => XeJ (slVX Kk (⟨1, (j1 : Int), 1, (j1 : Int), none, [], 0⟩ : HeadV) 80) (slRW Kk (⟨1, (j1 : Int), 1, (j1 : Int), none, [], 0⟩ : HeadV) 80) (.int .i64 0) 38 base2 (fun W => MineX w true vb spb nmb knb K (N.map (xorU u)) Lb Fb1 W) (SlP w vb spb nmb knb K (N2.map (xorU u)) Lb2 80 S base2 Fb1) slBs 38 (D 9) (D 10) (D 11) (D 12) (D 13) (D 14) (D 15) (a.tmps.getD 108 undef) (a.tmps.getD 98 undef) (a.tmps.getD 109 undef) (a.tmps.getD 110 undef) (a.tmps.getD 16 undef) (a.tmps.getD 17 undef) W) (by kernel_rfl) (by kernel_rfl) (by kernel_rfl) (by kernel_rfl) (fun j v w w' hT hr => hr) (fun j v w hlt hj _ => ?_) ⟨rfl, rfl, rfl, Nat.le_refl _, fun _ _ _ => rfl⟩ ?_ (XeJ.start (MineX.then_ B10M.out ((Below.refl _ _).drew))) ?_
                · rcases j with _ | _ | _ | _ | _ | _ | _ | _ | _ | _ | _ | _ | _ | _ | _ | _ | j
                  all_goals first
                    | (exfalso; simp [dstOf] at hj; done)
                    | trivial
                · refine ⟨fun D a W hC hd hsz hf hv hJ hL hW K hK => ?_, fun D a W hC hd hsz hf hv hJ hL hW K hK => ?_, fun D a W hC hd hsz hf hv hJ hL hW K hK => ?_, fun D a W hC hd hsz hf hv hJ hL hW K hK => ?_, fun D a W hC hd hsz hf hv hJ hL hW K hK => ?_, fun D a W hC hd hsz hf hv hJ hL hW K hK => ?_, fun D a W hC hd hsz hf hv hJ hL hW K hK => ?_, fun D a W hC hd hsz hf hv hJ hL hW K hK => ?_, fun D a W hC hd hsz hf hv hJ hL hW K hK => ?_, fun D a W hC hd hsz hf hv hJ hL hW K hK => ?_, fun D a W hC hd hsz hf hv hJ hL hW K hK => ?_, fun D a W hC hd hsz hf hv hJ hL hW K hK => ?_, fun D a W hC hd hsz hf hv hJ hL hW K hK => ?_, fun D a W hC hd hsz hf hv hJ hL hW K hK => ?_, fun D a W hC hd hsz hf hv hJ hL hW K hK => ?_, fun D a W hC hd hsz hf hv hJ hL hW K hK => ?_, trivial⟩
                  · have HSZ : a.tmps.size = 144 := hsz
                    have e1 := slot_of (a := a) (s := 6) (v := .pointer (some ⟨vb, 0, none⟩)) (hf 6 (by kernel_rfl))
                    refine step_run (wanted_none rfl) (v := .pointer (some ⟨vb, 0, none⟩)) (w' := W) ?_ (hK _ _ hC trivial rfl (by simp only [put_otherX (show (108 : Nat) ≠ 99 by decide), put_otherX (show (98 : Nat) ≠ 99 by decide), put_otherX (show (109 : Nat) ≠ 99 by decide), put_otherX (show (110 : Nat) ≠ 99 by decide), put_otherX (show (16 : Nat) ≠ 99 by decide), put_otherX (show (17 : Nat) ≠ 99 by decide)]; exact hJ))
                    clear hsz HSZ
                    go_simp
                  · have HSZ : a.tmps.size = 144 := hsz
                    have e1 := slot_of (a := a) (s := 9) (v := .slice A9 mn c9) (hf 9 (by kernel_rfl))
                    refine step_run (wanted_none rfl) (v := .slice A9 mn c9) (w' := W) ?_ (hK _ _ hC trivial rfl (by simp only [put_otherX (show (108 : Nat) ≠ 100 by decide), put_otherX (show (98 : Nat) ≠ 100 by decide), put_otherX (show (109 : Nat) ≠ 100 by decide), put_otherX (show (110 : Nat) ≠ 100 by decide), put_otherX (show (16 : Nat) ≠ 100 by decide), put_otherX (show (17 : Nat) ≠ 100 by decide)]; exact hJ))
                    clear hsz HSZ
                    go_simp
                  · have HSZ : a.tmps.size = 144 := hsz
                    have e1 := slot_of (a := a) (s := 13) (v := .pointer (some ⟨g13, 0, none⟩)) (hf 13 (by kernel_rfl))
                    exact step_load_rowW (wanted_none rfl) 35 (.tmp 13) rfl g13 (eval_of (hf 13 (by kernel_rfl))) 35 (⟨1, (j1 : Int), 1, (j1 : Int), none, [], 0⟩ : HeadV).row (H10.out.untouched hC n13.out.2) _ Tryd.underlying35 rfl (iHead _) (hK _ _ hC trivial rfl (by simp only [put_otherX (show (108 : Nat) ≠ 101 by decide), put_otherX (show (98 : Nat) ≠ 101 by decide), put_otherX (show (109 : Nat) ≠ 101 by decide), put_otherX (show (110 : Nat) ≠ 101 by decide), put_otherX (show (16 : Nat) ≠ 101 by decide), put_otherX (show (17 : Nat) ≠ 101 by decide)]; exact hJ))
                  · have HSZ : a.tmps.size = 144 := hsz
                    have e1 := slot_of (a := a) (s := 12) (v := .slice (some ⟨g12, 0, none⟩) r r) (hf 12 (by kernel_rfl))
                    refine step_run (wanted_none rfl) (v := .slice (some ⟨g12, 0, none⟩) r r) (w' := W) ?_ (hK _ _ hC trivial rfl (by simp only [put_otherX (show (108 : Nat) ≠ 102 by decide), put_otherX (show (98 : Nat) ≠ 102 by decide), put_otherX (show (109 : Nat) ≠ 102 by decide), put_otherX (show (110 : Nat) ≠ 102 by decide), put_otherX (show (16 : Nat) ≠ 102 by decide), put_otherX (show (17 : Nat) ≠ 102 by decide)]; exact hJ))
                    clear hsz HSZ
                    go_simp
                  · have HSZ : a.tmps.size = 144 := hsz
                    have e1 := slot_of (a := a) (s := 0) (v := .slice (some ⟨b, off, none⟩) n1 c1) (hf 0 (by kernel_rfl))
                    refine step_run (wanted_none rfl) (v := .slice (some ⟨b, off, none⟩) n1 c1) (w' := W) ?_ (hK _ _ hC trivial rfl (by simp only [put_otherX (show (108 : Nat) ≠ 103 by decide), put_otherX (show (98 : Nat) ≠ 103 by decide), put_otherX (show (109 : Nat) ≠ 103 by decide), put_otherX (show (110 : Nat) ≠ 103 by decide), put_otherX (show (16 : Nat) ≠ 103 by decide), put_otherX (show (17 : Nat) ≠ 103 by decide)]; exact hJ))
                    clear hsz HSZ
                    go_simp
                  · have HSZ : a.tmps.size = 144 := hsz
                    have e1 := slot_of (a := a) (s := 7) (v := .int .i64 (j : Int)) (hf 7 (by kernel_rfl))
                    refine step_run (wanted_none rfl) (v := .int .i64 (j : Int)) (w' := W) ?_ (hK _ _ hC trivial rfl (by simp only [put_otherX (show (108 : Nat) ≠ 104 by decide), put_otherX (show (98 : Nat) ≠ 104 by decide), put_otherX (show (109 : Nat) ≠ 104 by decide), put_otherX (show (110 : Nat) ≠ 104 by decide), put_otherX (show (16 : Nat) ≠ 104 by decide), put_otherX (show (17 : Nat) ≠ 104 by decide)]; exact hJ))
                    clear hsz HSZ
                    go_simp
                  · have HSZ : a.tmps.size = 144 := hsz
                    have e1 := slot_of (a := a) (s := 103) (v := .slice (some ⟨b, off, none⟩) n1 c1) (hv 4 (by kernel_rfl))
                    have e2 := slot_of (a := a) (s := 104) (v := .int .i64 (j : Int)) (hv 5 (by kernel_rfl))
                    refine step_run (wanted_none rfl) (v := .pointer (some ⟨b, off + j * 3, none⟩)) (w' := W) ?_ (hK _ _ hC trivial rfl (by simp only [put_otherX (show (108 : Nat) ≠ 105 by decide), put_otherX (show (98 : Nat) ≠ 105 by decide), put_otherX (show (109 : Nat) ≠ 105 by decide), put_otherX (show (110 : Nat) ≠ 105 by decide), put_otherX (show (16 : Nat) ≠ 105 by decide), put_otherX (show (17 : Nat) ≠ 105 by decide)]; exact hJ))
                    clear hsz HSZ
                    go_simp
                  · have HSZ : a.tmps.size = 144 := hsz
                    have e1 := slot_of (a := a) (s := 105) (v := .pointer (some ⟨b, off + j * 3, none⟩)) (hv 6 (by kernel_rfl))
                    refine step_run (wanted_none rfl) (v := .pointer (some ⟨b, off + j * 3 + 2, none⟩)) (w' := W) ?_ (hK _ _ hC trivial rfl (by simp only [put_otherX (show (108 : Nat) ≠ 106 by decide), put_otherX (show (98 : Nat) ≠ 106 by decide), put_otherX (show (109 : Nat) ≠ 106 by decide), put_otherX (show (110 : Nat) ≠ 106 by decide), put_otherX (show (16 : Nat) ≠ 106 by decide), put_otherX (show (17 : Nat) ≠ 106 by decide)]; exact hJ))
                    clear hsz HSZ
                    go_simp
                  · have HSZ : a.tmps.size = 144 := hsz
                    have e1 := slot_of (a := a) (s := 106) (v := .pointer (some ⟨b, off + j * 3 + 2, none⟩)) (hv 7 (by kernel_rfl))
                    have c2 := C2B.out W hC
                    refine step_run (wanted_none rfl) (v := .bool q.del) (w' := W) ?_ (hK _ _ hC trivial rfl (by simp only [put_otherX (show (108 : Nat) ≠ 107 by decide), put_otherX (show (98 : Nat) ≠ 107 by decide), put_otherX (show (109 : Nat) ≠ 107 by decide), put_otherX (show (110 : Nat) ≠ 107 by decide), put_otherX (show (16 : Nat) ≠ 107 by decide), put_otherX (show (17 : Nat) ≠ 107 by decide)]; exact hJ))
                    clear hsz HSZ
                    go_simp
                  · have HSZ : a.tmps.size = 144 := hsz
                    have e1 := slot_of (a := a) (s := 99) (v := .pointer (some ⟨vb, 0, none⟩)) (hv 0 (by kernel_rfl))
                    have e2 := slot_of (a := a) (s := 100) (v := .slice A9 mn c9) (hv 1 (by kernel_rfl))
                    have e3 := slot_of (a := a) (s := 101) (v := .agg (⟨1, (j1 : Int), 1, (j1 : Int), none, [], 0⟩ : HeadV).row) (hv 2 (by kernel_rfl))
                    have e4 := slot_of (a := a) (s := 102) (v := .slice (some ⟨g12, 0, none⟩) r r) (hv 3 (by kernel_rfl))
                    have e5 := slot_of (a := a) (s := 107) (v := .bool q.del) (hv 8 (by kernel_rfl))
                    have M := hJ.no hL
                    have hsz9 : base2 ≤ W.heap.size := by have := hC.size; have := HB10.out; omega
                    have cs := seal_own M.vs A9 mn c9 (xorU u Y) YX.out (by have := HGOOD.out; omega) (by omega) (O9A.out.cap.1) (O9A.out.cap.2) ((O9A.out.untouched hC (fun k hk => FLR.out.2 k hk)).rd.1) (⟨1, (j1 : Int), 1, (j1 : Int), none, [], 0⟩ : HeadV) HOK9.out (fun hn => absurd hn (Nat.lt_irrefl 0)) (some ⟨g12, 0, none⟩) r r ZR ZRL.out (by have := R60.out; omega) ((O12A.out.untouched hC (fun k hk => FLV.out.2 k hk)).rd.1) q.del (by rw [List.length_map]; have := HNM.out.len; omega) (by have := HNM.out.blen; have := HNM.out.len; omega) (M.tab HT.out hg1) (M.glt hg1) (M.ptab HPT.out hg2) (M.glt hg2) (M.gF hg1) NIN.out.2
                    unfold EsW at cs
                    rw [HSB.out, HKX.out, SL80.out, HN2x.out, HLB2.out] at cs
                    refine step_callx 7 #[.pointer (some ⟨vb, 0, none⟩), .slice A9 mn c9, .agg (⟨1, (j1 : Int), 1, (j1 : Int), none, [], 0⟩ : HeadV).row, .slice (some ⟨g12, 0, none⟩) r r, .bool q.del] (wanted_none rfl) (w' := W) ?_ (cs.mono fun e W2 hh => ?_)
                    · clear hsz HSZ
                      go_simp
                    · obtain ⟨pa, pc, sa, sc, F5, rfl, hOp, hOs, hnp, hns, hne, hV, hG, hU⟩ := hh
                      exact ⟨_, rfl, hK _ _ (hC.trans (Grew.refl _ _) hU) trivial trivial (by simp only [put_otherX (show (98 : Nat) ≠ 108 by decide), put_otherX (show (109 : Nat) ≠ 108 by decide), put_otherX (show (110 : Nat) ≠ 108 by decide), put_otherX (show (16 : Nat) ≠ 108 by decide), put_otherX (show (17 : Nat) ≠ 108 by decide), put_selfX (show 108 < a.tmps.size by rw [HSZ]; omega)]; exact hJ.to_x hL ⟨pa, pc, sa, sc, F5⟩ ⟨M.next hV hG hU, hOs.lower hsz9, fun k hk => (hG k hk).imp id (fun h => Nat.le_trans hsz9 h)⟩ (fun k h1 h2 => hU.block k h2 (fun hm => by have := FLb.out _ hm; omega)) (fun k hm => (by rcases List.mem_append.1 hm with hm | hm; exact (hG k hm).imp (FLb.out k) id; exact .inr (by simp only [blkOf, Option.mem_toList, Option.map_eq_some_iff] at hm; obtain ⟨x, ex, rfl⟩ := hm; exact (World.ownsRow.lt hOs x.block (by rw [show sa = some x from ex]; rfl)).1))))⟩
                  · have HSZ : a.tmps.size = 144 := hsz
                    refine step_run (wanted_none rfl) (v := a.tmps.getD 108 undef) (w' := W) ?_ (hK _ _ hC trivial trivial (by simp only [put_otherX (show (108 : Nat) ≠ 98 by decide), put_otherX (show (109 : Nat) ≠ 98 by decide), put_otherX (show (110 : Nat) ≠ 98 by decide), put_otherX (show (16 : Nat) ≠ 98 by decide), put_otherX (show (17 : Nat) ≠ 98 by decide), put_selfX (show 98 < a.tmps.size by rw [HSZ]; omega)]; exact hJ.to_mv (hW 9 (by kernel_rfl))))
                    clear hsz HSZ
                    go_simp
                  · have HSZ : a.tmps.size = 144 := hsz
                    obtain ⟨a2, q2, X2, k1, k2, k3, k4, k5, k6, k7, k8⟩ := hJ.ex
                    have e1 := slot_of (k2 (hW 10 (by kernel_rfl)))
                    refine step_run (wanted_none rfl) (v := .agg (slRW Kk (⟨1, (j1 : Int), 1, (j1 : Int), none, [], 0⟩ : HeadV) 80 a2)) (w' := W) ?_ (hK _ _ hC trivial trivial (by simp only [put_otherX (show (108 : Nat) ≠ 109 by decide), put_otherX (show (98 : Nat) ≠ 109 by decide), put_otherX (show (110 : Nat) ≠ 109 by decide), put_otherX (show (16 : Nat) ≠ 109 by decide), put_otherX (show (17 : Nat) ≠ 109 by decide), put_selfX (show 109 < a.tmps.size by rw [HSZ]; omega)]; exact hJ.to_s0 (hW 10 (by kernel_rfl)) a2 (k2 (hW 10 (by kernel_rfl))) (fun _ _ => slVX_inj)))
                    (try unfold slRW); unfold slVX at e1
                    clear hsz HSZ k1 k2 k3 k4 k5 k6 k7 k8
                    go_simp
                  · have HSZ : a.tmps.size = 144 := hsz
                    obtain ⟨a2, q2, X2, k1, k2, k3, k4, k5, k6, k7, k8⟩ := hJ.ex
                    have e1 := slot_of (k2 (hW 10 (by kernel_rfl)))
                    refine step_run (wanted_none rfl) (v := .int .i64 0) (w' := W) ?_ (hK _ _ hC trivial trivial (by simp only [put_otherX (show (108 : Nat) ≠ 110 by decide), put_otherX (show (98 : Nat) ≠ 110 by decide), put_otherX (show (109 : Nat) ≠ 110 by decide), put_otherX (show (16 : Nat) ≠ 110 by decide), put_otherX (show (17 : Nat) ≠ 110 by decide), put_selfX (show 110 < a.tmps.size by rw [HSZ]; omega)]; exact hJ.to_s1 (hW 10 (by kernel_rfl))))
                    (try unfold slRW); unfold slVX at e1
                    clear hsz HSZ k1 k2 k3 k4 k5 k6 k7 k8
                    go_simp
                  · have HSZ : a.tmps.size = 144 := hsz
                    have hBW : base2 ≤ W.heap.size := (by have := hC.size; have := HB10.out; omega)
                    refine step_run (wanted_none rfl) (v := .pointer (some ⟨W.heap.size, 0, none⟩)) (w' := W.alloc (.cells eRow0 38)) ?_ (hK _ _ (hC.trans (Grew.refl _ _) (Untouched.alloc _)) trivial trivial (by simp only [put_otherX (show (108 : Nat) ≠ 16 by decide), put_otherX (show (98 : Nat) ≠ 16 by decide), put_otherX (show (109 : Nat) ≠ 16 by decide), put_otherX (show (110 : Nat) ≠ 16 by decide), put_otherX (show (17 : Nat) ≠ 16 by decide), put_selfX (show 16 < a.tmps.size by rw [HSZ]; omega)]; exact hJ.to_al hL hBW eRow_z (fun h => h.then_ ((Below.refl _ _).alloc (Nat.le_refl _) _)) (fun a h => ⟨h.alloc_ ((Below.refl _ _).alloc (Nat.le_refl _) _), h.lt⟩)))
                    clear hsz HSZ hBW
                    go_simp
                  · have HSZ : a.tmps.size = 144 := hsz
                    obtain ⟨a2, q2, X2, k1, k2, k3, k4, k5, k6, k7, k8⟩ := hJ.ex
                    obtain ⟨m1, m2, m3, m4⟩ := k6 (hW 13 (by kernel_rfl))
                    have e1 := eval_of m1
                    have e2 := eval_of (k3 (hW 11 (by kernel_rfl)))
                    refine step_put_row rfl 38 _ _ rfl q2 (slRW Kk (⟨1, (j1 : Int), 1, (j1 : Int), none, [], 0⟩ : HeadV) 80 a2) e1 e2 38 X2 m3 (iE _ KKL.out _ _ _ _) (m4.trans (eRow_size _ KKL.out _ _ _ _).symm) (eRow_one _ _ _ _ _) ?_
                    intro W' k9 g9 s9
                    exact hK _ _ (hC.trans (F' := [q2]) (fun k hk => .inr (by rw [List.mem_singleton.1 hk]; have := HB10.out; omega)) (Untouched.of_grown (F := [q2]) g9 (fun k hk => by injection hk with hk; subst hk; exact List.mem_singleton.2 rfl))) trivial trivial (by simp only [put_none]; exact hJ.to_st (hW 11 (by kernel_rfl)) (hW 13 (by kernel_rfl)) m1 (k3 (hW 11 (by kernel_rfl))) (eRow_size _ KKL.out _ _ _ _) k9 (fun a h hq => h.keep (Untouched.of_grown (F := [q2]) g9 (fun k hk => by injection hk with hk; subst hk; exact List.mem_singleton.2 rfl)) hq (Nat.le_trans WBb.out m2)))
                  · have HSZ : a.tmps.size = 144 := hsz
                    obtain ⟨a2, q2, X2, k1, k2, k3, k4, k5, k6, k7, k8⟩ := hJ.ex
                    have e1 := slot_of (k4 (hW 12 (by kernel_rfl)))
                    refine step_run (wanted_none rfl) (v := .int .i64 0) (w' := W) ?_ (hK _ _ hC trivial trivial (by simp only [put_otherX (show (108 : Nat) ≠ 17 by decide), put_otherX (show (98 : Nat) ≠ 17 by decide), put_otherX (show (109 : Nat) ≠ 17 by decide), put_otherX (show (110 : Nat) ≠ 17 by decide), put_otherX (show (16 : Nat) ≠ 17 by decide), put_selfX (show 17 < a.tmps.size by rw [HSZ]; omega)]; exact hJ.to_ae (hW 12 (by kernel_rfl))))
                    clear hsz HSZ k1 k2 k3 k4 k5 k6 k7 k8
                    go_simp
                · intro f W hC hv L hL hJ'
                  obtain ⟨aE, hJ, hfr⟩ := hJ'
                  obtain ⟨a2, q2, X2, k1, k2, k3, k4, k5, k6, k7, k8⟩ := hJ.ex
                  obtain ⟨-, jP⟩ := k1 (hL 9 (by decide))
                  obtain ⟨m1, m2, m3, m4⟩ := k6 (hL 13 (by decide))
                  have m7 := k7 (hL 14 (by decide))
                  have m8 := k8 (hL 9 (by decide)) (hL 13 (by decide))
                  rw [m7] at m3
                  have hfa : f 16 = .pointer (some ⟨q2, 0, none⟩) := by rw [← hfr 16]; exact m1
                  have hfe : f 17 = .int .i64 0 := by rw [← hfr 17]; exact k5 (hL 15 (by decide))
                  simp only [framed, List.foldl_cons, List.foldl_nil, List.setIfInBounds_toArray, List.set_cons_succ, List.set_cons_zero, hfa, hfe]
                  clear hv hJ hfr hL k1 k2 k3 k4 k5 k6 k7 k8 m1 m4 m7 hfa hfe
                  obtain ⟨pb, pd, sb, sd, F6⟩ := a2
                  have B11 := hid_ jP.m
                  have OT11 := hid_ (show Own8 W base2 (.slice sb 80 sd) S from jP.o)
                  have GF6 := hid_ (show ∀ k ∈ F6, k ∈ Fb1 ∨ base2 ≤ k from jP.f)
                  have D11 := hid_ (show Bk W q2 38 (eRow Kk ⟨1, (j1 : Int), 1, (j1 : Int), pb, [], pd⟩ sb 80 sd) from m3)
                  have U11 := hid_ hC
                  obtain ⟨w11, hw11⟩ : ∃ x, x = W := ⟨_, rfl⟩
                  subst hw11
                  have X11 := hid_ (B11.out.below)
                  have A11x := hid_ (A10.out.other U11.out (fun k hk hm => DFB.out k hm hk) X11.out)
                  have OS11 := hid_ (OS10.out.untouched U11.out (fun k hk => BS.out.2.2.2 k hk))
                  have E11 := hid_ (E10.out.untouched U11.out (fun hm => by have := BS.out.2.2.2 _ hm; have := Q2.out; omega))
                  have DF := hid_ (show ∀ k ∈ F5, k ∉ F6 from fun k hk hm => (GF6.out k hm).elim (fun h => DFB.out k hk h) (fun h => by have := A10.out.lt k hk; have := HB10.out; omega))
                  clear hC jP m3 m8 m2
                  refine hK9 _ _ ?_
                  clear hK9 K9
                  have hok1 : EnvOk ⟨1, (j1 : Int), 1, (j1 : Int), pa, [], pc⟩ S.length := ⟨HOK9.out, by rw [SL80.out]; omega, by rw [SL80.out]; omega⟩
                  have hok2 : EnvOk ⟨1, (j1 : Int), 1, (j1 : Int), pb, [], pd⟩ S.length := ⟨HOK9.out, by rw [SL80.out]; omega, by rw [SL80.out]; omega⟩
                  have cw1 := writeE_any w11 Kk KKL.out ⟨1, (j1 : Int), 1, (j1 : Int), pa, [], pc⟩ sa sc S hok1 Rd.nil OS11.out.rd.1
                  have cw2 := fun W h => writeE_any W Kk KKL.out ⟨1, (j1 : Int), 1, (j1 : Int), pb, [], pd⟩ sb sd S hok2 Rd.nil h
                  rw [show writeB Kk ⟨1, (j1 : Int), 1, (j1 : Int), pa, [], pc⟩ S = writeB Kk (⟨1, (j1 : Int), 1, (j1 : Int), none, [], 0⟩ : HeadV) S from rfl, SL80.out] at cw1
                  simp only [show writeB Kk ⟨1, (j1 : Int), 1, (j1 : Int), pb, [], pd⟩ S = writeB Kk (⟨1, (j1 : Int), 1, (j1 : Int), none, [], 0⟩ : HeadV) S from rfl, SL80.out] at cw2
                  obtain ⟨PB, hPB⟩ : ∃ x, writeB Kk (⟨1, (j1 : Int), 1, (j1 : Int), none, [], 0⟩ : HeadV) S = x := ⟨_, rfl⟩
                  obtain ⟨pn, hpn⟩ : ∃ x, PB.length = x := ⟨_, rfl⟩
                  have HPN := hid_ hpn
                  rw [hPB, hpn] at cw1
                  simp only [hPB, hpn] at cw2
                  clear hPB hpn hok1 hok2
                  go_upto_region 22 with (first
                    | (refine wpList_load_row rfl 38 (.tmp 14) rfl QQ rfl 38 (eRow Kk ⟨1, (j1 : Int), 1, (j1 : Int), pa, [], pc⟩ sa 80 sc) (0, 0) _ E11.out Tryd.underlying38 rfl (iE _ KKL.out _ _ _ _) ?_)
                    | (go_at_call 8; ((with_reducible refine cw1.mono ?_); clear cw1; rintro e w12 ⟨A12, c12, rfl, hO, hB⟩; have A12x := hid_ (A11x.out.then_ hB); have B12 := hid_ (B11.out.then_ hB); have D12 := hid_ (D11.out.below hB D11.out.lt); have P12 := hid_ hO; have cw3 := cw2 w12 (OT11.out.below hB (Nat.le_refl _)).rd.1; clear cw2 hO hB))
                    | (refine wpList_load_row rfl 38 (.tmp 16) rfl q2 rfl 38 (eRow Kk ⟨1, (j1 : Int), 1, (j1 : Int), pb, [], pd⟩ sb 80 sd) (0, 0) _ D12.out Tryd.underlying38 rfl (iE _ KKL.out _ _ _ _) ?_)
                    | (go_at_call 8; ((with_reducible refine cw3.mono ?_); clear cw3; rintro e w13 ⟨A13, c13, rfl, hO, hB⟩; have A13x := hid_ (A12x.out.then_ hB); have B13 := hid_ (B12.out.then_ hB); have P13 := hid_ (P12.out.below hB (Nat.le_refl _)); have Q13 := hid_ hO; clear hO hB)))
                  have V1 : (convert 27 9 (.slice A12 pn c12)).run Tryd.prog w13 = .ok (.string (strOf PB)) w13 := conv_strn P13.out.rd.1 pn c12 HPN.out
                  have V2 : (convert 27 9 (.slice A13 pn c13)).run Tryd.prog w13 = .ok (.string (strOf PB)) w13 := conv_strn Q13.out.rd.1 pn c13 HPN.out
                  go_wp2
                  go_roundw
                  case rel => exact ⟨j + 1, N2, La2, Lb2, F5, F6, by have := HLT.out; omega, by go_num, hid_ ⟨A13x.out, B13.out, DF.out⟩, hid_ ⟨by rw [LEa.out.1, LEb.out.1, HNM.out.eq], fun p hp => by rw [LEa.out.1] at hp; rcases List.mem_append.1 hp with h | h; exact Nat.le_succ_of_le (HNM.out.lt p h); rw [List.mem_singleton.1 h]; show ((j1 : Nat) : Int).toNat ≤ j + 1; have := HJ1.out; omega, by rw [LEa.out.2]; have := HNM.out.len.1; omega, by have := HN2l.out; have := HNM.out.len.2; omega⟩⟩
                  case measure => have := HLT.out; simp [intOf]; omega
    · have ca := vcount_x HT2.out.a.vs
      have cb := vcount_x HT2.out.b.vs
      rw [HNM.out.blen] at cb
      obtain ⟨nl, hnl⟩ : ∃ x, La.length = x := ⟨_, rfl⟩
      rw [hnl] at ca cb
      by_cases hj1 : j < n1
      · have hd1 : decide ((j : Int) < (n1 : Int)) = true := decide_eq_true (by omega)
        have hd2 : decide ((j : Int) < 10) = false := decide_eq_false (by omega)
        have hd3 : decide (j < n1) = true := decide_eq_true (by omega)
        have hd4 : decide (j < 10) = false := decide_eq_false (by omega)
        go_wp2_with (first
          | (go_at_call 9; ((with_reducible refine ca.mono ?_); clear ca; rintro r w' ⟨rfl, rfl⟩))
          | (go_at_call 9; ((with_reducible refine cb.mono ?_); clear cb; rintro r w' ⟨rfl, rfl⟩)))
        go_ret
        exact ⟨rfl, HT2.out.a.below⟩
      · have hd1 : decide ((j : Int) < (n1 : Int)) = false := decide_eq_false (by omega)
        have hd3 : decide (j < n1) = false := decide_eq_false (by omega)
        go_wp2_with (first
          | (go_at_call 9; ((with_reducible refine ca.mono ?_); clear ca; rintro r w' ⟨rfl, rfl⟩))
          | (go_at_call 9; ((with_reducible refine cb.mono ?_); clear cb; rintro r w' ⟨rfl, rfl⟩)))
        go_ret
        exact ⟨rfl, HT2.out.a.below⟩

theorem laid_metE (os : Os) : laidMet Tryd.prog [("casket/pad.sizes", Rows.laid_casket_pad_sizes), ("casket/sha2.roundWords", Rows.laid_casket_sha2_roundWords)] ((laidWorldE os).forCall (fun _ _ => 0) ⟨#[], #[.slice none 0 0, .int .u8 0], []⟩).memory :=
  laidMet_of_run' 8 (by kernel_rfl) (by kernel_rfl)

/-- What the walk gives, for every argument and every world in which the constants lie. -/
theorem contract (H : Type) (enc : TypeId × Value → H) (W : World) (base : Nat) (args : Array Value) (ds gs : List (DataW H)) (before : List MemPlace)
    (hval : ∀ (j : Nat) t v, Tryd.f3.params[j]? = some t → args[j]? = some v → Value.okWide Tryd.prog W .any base t v)
    (hW : DataW.Whole enc Tryd.prog Tryd.f3.params.toList Rows.casketHidesSpec.vars false W args.toList ds gs before) (hL : laidMetH Tryd.prog Rows.casketHidesRow.laid W) :
    Calls Tryd.prog 3 args W fun e W' => ∃ v, e = .returned v ∧ Rows.casketHidesSpec.post enc Tryd.prog Tryd.f3 false true false false W args v W' := by
  obtain ⟨⟨hpt, hg2⟩, ht, hg1⟩ := two_of hL
  have hW' := hW
  obtain ⟨p, q, hA0, hV, rfl, hfz, hnd⟩ := hW
  have hA : DataW.TrodAll enc Tryd.prog W 0 (fun _ => true) true Tryd.f3.params.toList args.toList ds p := hA0
  rw [Tryd.params3] at hA hval
  obtain ⟨v0, vs0, d0, ds0, p0, q0, hargs, rfl, rfl, h0, r0⟩ := trodAll_cons hA
  obtain ⟨v1, vs1, d1, ds1, p1, q1, rfl, rfl, rfl, h1, r1⟩ := trodAll_cons r0
  obtain ⟨rfl, rfl, rfl⟩ := trodAll_nil r1
  obtain rfl : args = #[v0, v1] := by cases args; simp_all
  obtain ⟨rfl, rfl⟩ := trodVars_none hV
  obtain ⟨A1, l1, c1, rfl, hp1, hl1, hm1⟩ := open_notes (hval 0 22 v0 rfl rfl) h0
  obtain ⟨u, rfl⟩ := open_u8 Tryd.underlying5 (hval 1 5 v1 rfl rfl) h1
  refine (walk W A1 l1.length c1 l1 rfl hp1 (by unfold maxLen at hm1; omega) u ht hg1 hpt hg2).mono fun e W' ⟨he, hg⟩ => ⟨_, he, ?_⟩
  exact law_post laidOut_ (of_decide_eq_true (by kernel_rfl)) rfl rfl Tryd.underlying4 rfl hW' hg

theorem reads (os : Os) {H : Type} (enc : TypeId × Value → H) : ∃ places, DataW.whole enc Tryd.prog ((laidWorldE os).forCall (fun _ _ => 0) ⟨#[], #[.slice none 0 0, .int .u8 0], []⟩).memory Tryd.f3.params.toList Rows.casketHidesSpec.vars false (#[.slice none 0 0, .int .u8 0] : Array Value).toList 8 = some ([.nil, .lit (.int .u8 0)], [], places) :=
  ⟨[], by kernel_rfl⟩

set_option maxRecDepth 100000 in
theorem lifted (os : Os) (started : os.Started) (H : Type) (enc : TypeId × Value → H) (F : Stop.Interp) :
    ReturnsInHanded {} Tryd.checked os 3 .any ((OpenSpec.ofChange Rows.casketHidesSpec).preRow enc Tryd.prog Tryd.f3 Rows.casketHidesRow.domain false Rows.casketHidesRow.laid) (((OpenSpec.ofChange Rows.casketHidesSpec).at F).post enc Tryd.prog Tryd.f3 false true false false) := by
  obtain ⟨places, hx⟩ := reads os enc
  refine returnsInHanded_of_row (C := Tryd.checked) (s := OpenSpec.ofChange Rows.casketHidesSpec) own_ started (by kernel_rfl) Tryd.func3
    (witness_row_at (enc := enc) (C := Tryd.checked) false (laidWorldE os) #[.slice none 0 0, .int .u8 0] rfl (by kernel_rfl) (by kernel_rfl) (by kernel_rfl)
      (OpenSpec.preRow_of_cond 8 hx (by kernel_rfl) (fun k hk => by cases hk) (by kernel_rfl) (laid_metE os))) ?_
  intro W base args ds gs before hval hW _ _ _ hL _ _
  exact contract H enc W base args ds gs before hval hW hL

theorem said : Rows.CasketHidesSaid :=
  OpenClaim.holds_of_cond 3 Tryd.f3 rfl rfl rfl rfl rfl rfl rfl ⟨rfl, rfl, rfl, rfl, rfl⟩ rfl rfl rfl rfl rfl (by kernel_rfl) Tryd.func3 (by kernel_rfl)
    (of_decide_eq_true (by kernel_rfl)) (by unfold Func.isWrapper; first | (rw [if_pos (by decide +kernel)]; kernel_rfl) | (rw [if_neg (by decide +kernel)]; exact ⟨rfl, rfl⟩))
    (fun os started H enc _ F => by rw [OpenClaim.pre_eq_preRow]; exact lifted os started H enc F)

/-- No parameter wants a stand-in; the program's own looks are off: what the card asks. -/
theorem plain (f : FuncId) (fn : Func) (hf : Tryd.pinned.checked.prog.funcNamed "casket/caskettop.CasketHides" = some f) (hfn : Tryd.pinned.checked.prog.funcs[f]? = some fn) :
    false = Tryd.pinned.checked.prog.looks [] ∧ ∀ (j : Nat) t, fn.params[j]? = some t → Tryd.pinned.checked.prog.wantsStandIn t = false := by
  obtain rfl : f = 3 := Option.some.inj ((show Tryd.prog.funcNamed "casket/caskettop.CasketHides" = some 3 by kernel_rfl).symm.trans hf) |>.symm
  obtain rfl : fn = Tryd.f3 := (Option.some.inj (Tryd.func3.symm.trans hfn)).symm
  refine ⟨by kernel_rfl, fun j t ht => ?_⟩
  rw [Tryd.params3] at ht
  have hm := Array.mem_of_getElem? ht
  simp only [List.mem_toArray, List.mem_cons, List.not_mem_nil, or_false] at hm
  rcases hm with rfl | rfl
  · exact (show Tryd.prog.wantsStandIn 22 = false by kernel_rfl)
  · exact (show Tryd.prog.wantsStandIn 5 = false by kernel_rfl)

/-- The card. -/
theorem proved : Rows.CasketHidesCardSaid :=
  Claim7.holds_tied_plain_at .later [] _ _ _ _ said (fun _ h => by cases h) (by kernel_rfl) (fun _ h => by cases h) casketHides_row_tie rfl ⟨rfl, rfl⟩ (by kernel_rfl) rfl plain (by kernel_rfl)
#print axioms proved
end Go.Proofs.YtmomnfhoeabdnaaDoor.casketHides
