/-
  Proved: for all numbers of boxes and rows of acts NetActs answers true: in every row of calls a net answers what the chapter says; of none nothing is told. No condition.
-/
import Derived.Test.YtdkemjipbkanoaaVt
import Derived.Test.YtdkemjipbkanoaaLp
namespace Go.Proofs.Ytdkemjipbkanoaa.netActs
open Go.ChangeShapes Go.WideShapes Go.ChangeAt Go.RowKit
set_option linter.unusedVariables false
set_option linter.unusedSimpArgs false

theorem str_neq (l : List UInt8) (W : World) : (binOp .neq 9 (.string (strOf l)) (.string (strOf l))).run Try.prog W = .ok (.bool false) W := by simp [go_sem]
theorem xor8 (a b : UInt8) : bits .xor .u8 (a.toNat : Int) (b.toNat : Int) = (((a ^^^ b).toNat : Nat) : Int) := by
  have ha := a.toNat_lt
  have hb := b.toNat_lt
  have hx : a.toNat ^^^ b.toNat < 2 ^ 8 := Nat.xor_lt_two_pow (by omega) (by omega)
  have h1 : (BitVec.ofInt 8 (a.toNat : Int)).toNat = a.toNat := by
    rw [BitVec.ofInt_natCast, BitVec.toNat_ofNat]; exact Nat.mod_eq_of_lt (by omega)
  have h2 : (BitVec.ofInt 8 (b.toNat : Int)).toNat = b.toNat := by
    rw [BitVec.ofInt_natCast, BitVec.toNat_ofNat]; exact Nat.mod_eq_of_lt (by omega)
  show IntKind.u8.wrap ((BitVec.ofInt 8 (a.toNat : Int) ^^^ BitVec.ofInt 8 (b.toNat : Int)).toNat : Int) = _
  rw [BitVec.toNat_xor, h1, h2, UInt8.toNat_xor]
  simp [IntKind.wrap, IntKind.signed, IntKind.bits]
  omega

theorem xor_one (x : UInt8) : bits .xor .u8 (x.toNat : Int) 1 = (((x ^^^ 1).toNat : Nat) : Int) := xor8 x 1
theorem box_cells {w : World} {B : Nat} {v : ActV} (h : Bk w B 41 v.row) : w.cell? ⟨B, 0, none⟩ = some (.int .i64 v.kind) ∧ w.cell? ⟨B, 1, none⟩ = some (.int .i64 v.num) ∧ w.cell? ⟨B, 2, none⟩ = some (.int .i64 v.k) ∧ w.cell? ⟨B, 3, none⟩ = some (.slice v.at_ v.text.length v.cap) := ⟨h.cell 0, h.cell 1, h.cell 2, h.cell 3⟩
set_option maxRecDepth 100000 in
set_option maxHeartbeats 16000000 in
theorem walk (w : World) (bx : Int) (A0 : Option Addr) (n0 c0 : Nat) (ls : List ActV) (hn : ls.length = n0) (hp : RdAct w w.heap.size A0 ls) (hn7 : n0 ≤ 9223372036854775807) : Calls Try.prog 3 #[.int .i64 bx, .slice A0 n0 c0] w fun e w' => e = .returned (.bool true) ∧ Below w.heap.size w w' := by
  have c0' := fun W => none_any W
  have c1 := fun W => take_no (w := W) 0 (inbox_nil W 0) 0
  have c2 := fun W => clear_no (w := W) 0 (inbox_nil W 0)
  have c3 := fun W v => send_no (w := W) 0 (inbox_nil W 0) v
  have c4 := fun W => copy_no (w := W) 0 (inbox_nil W 0) 0
  have c5 := fun W => len_no (w := W) 0 (inbox_nil W 0)
  have c6 := fun W => seen_no (w := W) 0 (inbox_nil W 0)
  have cs := fun W => nets_any W
  have HP := hidv_ hp
  have HN := hidv_ hn
  clear hp hn
  go_enter Try.func3, Try.ntmps3
  go_upto_region 5 with (first
    | (go_at_call 6; ((with_reducible refine (c0' _).mono ?_); rintro e wz ⟨rfl, rfl⟩))
    | (go_at_call 7; ((with_reducible refine (c1 _).mono ?_); rintro e wz ⟨rfl, rfl⟩))
    | (go_at_call 8; ((with_reducible refine (c2 _).mono ?_); rintro e wz ⟨rfl, rfl⟩))
    | (go_at_call 9; ((with_reducible refine (cs _).mono ?_); rintro e w1 ⟨rfl, hb⟩; have B1 := hidv_ hb; clear hb))
    | (go_at_call 10; ((with_reducible refine (c3 _ _).mono ?_); rintro e wz ⟨rfl, rfl⟩))
    | (go_at_call 11; ((with_reducible refine (c4 _).mono ?_); rintro e wz ⟨rfl, rfl⟩))
    | (go_at_call 12; ((with_reducible refine (c5 _).mono ?_); rintro e wz ⟨rfl, rfl⟩))
    | (go_at_call 13; ((with_reducible refine (c6 _).mono ?_); rintro e wz ⟨rfl, rfl⟩)))
  clear c0' c1 c2 c3 c4 c5 c6 cs
  by_cases hbad : bx < 1 ∨ 9 < bx
  · have cn := new_no w1 bx hbad
    by_cases hb1 : bx < 1
    · have d1 : decide (bx < 1) = true := decide_eq_true hb1
      clear hbad hb1
      go_wp2_with (go_at_call 14; ((with_reducible refine cn.mono ?_); clear cn; rintro e wz ⟨rfl, rfl⟩))
      go_ret
      exact ⟨rfl, B1.out⟩
    · have d1 : decide (bx < 1) = false := decide_eq_false hb1
      have d2 : decide (9 < bx) = true := decide_eq_true (by omega)
      clear hbad hb1
      go_wp2_with (go_at_call 14; ((with_reducible refine cn.mono ?_); clear cn; rintro e wz ⟨rfl, rfl⟩))
      go_ret
      exact ⟨rfl, B1.out⟩
  · obtain ⟨n, rfl⟩ : ∃ n : Nat, bx = (n : Int) := ⟨bx.toNat, by omega⟩
    have h1 : 1 ≤ n := by omega
    have h9 : n ≤ 9 := by omega
    have cn := new_yes w1 n h1 h9
    have cr := fun W => rnew_yes W n h9
    have d1 : decide ((n : Int) < 1) = false := decide_eq_false (by omega)
    have d2 : decide (9 < (n : Int)) = false := decide_eq_false (by omega)
    clear hbad
    go_upto_region 9 with (first
      | (go_at_call 14; ((with_reducible refine cn.mono ?_); clear cn; rintro e w2 ⟨p, q, F, rfl, h, hF, hb⟩; have H2 : Hid (NetI w w2 p q n (List.replicate (2 * n) []) F) := hidv_ ⟨h, B1.out.trans (hb.mono B1.out.size), fun k hk => Nat.le_trans B1.out.size (hF k hk)⟩; clear h hF hb))
      | (go_at_call 15; ((with_reducible refine (cr _).mono ?_); clear cr; rintro e w3 ⟨rp, rq, rs, G, rfl, h, hG, hb⟩; have H3 := hidv_ (TwN.start H2.out h hG hb); clear h hG hb)))
    go_upto_region 10 with fail
    obtain ⟨M, hM⟩ : ∃ M, M = min n0 60 := ⟨_, rfl⟩
    go_loopw [9] (fun i wr => ∃ (j : Nat) (L Z : List (List (List UInt8))), j ≤ M ∧ i = .int .i64 j ∧ Hid (TwN w wr (fun _ => False) p q n L rp rq rs Z) ∧ Hid (RelZ n j L Z)) (fun i _ => M - (intOf i).toNat)
    case atStart => exact ⟨0, _, _, Nat.zero_le _, rfl, H3, hidv_ (RelZ.start n)⟩
    case round =>
      obtain ⟨j, L, Z, hj, rfl, HI, HR⟩ := hrel
      by_cases hlt : j < M
      · have hd1 : decide ((j : Int) < (n0 : Int)) = true := decide_eq_true (by omega)
        have hd2 : decide ((j : Int) < 60) = true := decide_eq_true (by omega)
        have hd3 : decide (j < n0) = true := decide_eq_true (by omega)
        have hd4 : decide (j < 60) = true := decide_eq_true (by omega)
        obtain ⟨g, off, rfl, hgl, hrow, hok⟩ := HP.out.row j (by rw [HN.out]; omega)
        generalize ls[j]'(by rw [HN.out]; omega) = v at *
        have HROW := hidv_ (fun i hi => ((HI.out.un).cell (p := ⟨g, off + j * 4 + i, none⟩) hgl).trans (hrow i hi))
        have HOK := hidv_ hok
        have t0 : (0 : Int) ≤ (j : Int) := by omega
        have tn : (j : Int) < (n0 : Int) := by omega
        have HLT := hidv_ hlt
        clear hrow hok hlt
        go_upto_region 13 with (first
          | (refine wpList_load_act rfl (.tmp 85) rfl g (off + j * 4) rfl v HROW.out ?_)
          | (refine wpList_put_row rfl 41 (.tmp 10) (.tmp 86) rfl wr.heap.size v.row rfl rfl 41 _ (Bk.new wr _ _) (iAct v) rfl v.row_one ?_; intro w4 k4 g4 s4; have K4 := hidv_ k4; have G4 := hidv_ g4; have S4 := hidv_ s4; clear k4 g4 s4))
        have hb4 : Below wr.heap.size wr w4 := ((Below.refl _ _).alloc (Nat.le_refl _) _).grown G4.out (by simp) (fun k e => by injection e with e; omega)
        have H4 := hidv_ (HI.out.avoid (Y := fun k => k = wr.heap.size) hb4 (fun k hk => by subst hk; exact ⟨K4.out.lt, .inr (Nat.le_refl _)⟩))
        clear hb4 HI HROW G4 S4
        generalize wr.heap.size = B at *
        have hM60 : M ≤ 60 := by omega
        obtain ⟨x, hx, hxb⟩ := u64_natV v.kind
        obtain ⟨c40, c41, c42, c43⟩ := box_cells K4.out
        have hd : x % 4 = 0 ∨ x % 4 = 1 ∨ x % 4 = 2 ∨ x % 4 = 3 := by omega
        rcases hd with hd | hd | hd | hd
        · skip
          have r3 : (x : Int).tmod 4 = 0 := by rw [Int.tmod_eq_emod_of_nonneg (by omega)]; omega
          have r4 : IntKind.u64.wrap 0 = 0 := by decide
          have r5 : IntKind.i64.wrap 0 = 0 := by decide
          clear hd hxb
          obtain ⟨r, hr⟩ : ∃ r, r = min v.text.length 30 := ⟨_, rfl⟩
          have HMIN := hidv_ hr
          have HRL : Hid ((v.text.take 30).length = r) := hidv_ (by rw [List.length_take, hr, Nat.min_comm])
          have hr30 : r ≤ 30 := by omega
          have hrc : r ≤ v.cap := by have := HOK.out.len; omega
          have hsl := fun W => slice_to v.at_ v.text.length v.cap (r : Int) r rfl hrc W
          obtain ⟨m, hm⟩ : ∃ m, v.text.take 30 = m := ⟨_, rfl⟩
          rw [hm] at HRL
          have HML := HRL
          obtain ⟨ez, L', Z', hr', hc1, hc2⟩ := both_send H4.out HR.out v.num m r HML.out hr30
          have HR6 := hidv_ hr'
          have C1 := hidv_ hc1
          have C2 := hidv_ hc2
          obtain ⟨wa, hwa⟩ : ∃ z, w4.alloc (.cells #[] 5) = z := ⟨_, rfl⟩
          have hba : Below w4.heap.size w4 wa := by rw [← hwa]; exact (Below.refl _ _).alloc (Nat.le_refl _) _
          have hown : Own8 wa w4.heap.size (.slice (some ⟨w4.heap.size, 0, none⟩) 0 0) [] := by rw [← hwa]; exact Own8.lit w4 w4.heap.size [] (Nat.le_refl _) (Nat.zero_le _)
          have HOWN := hidv_ hown
          have HBA := hidv_ hba
          have RDA : Hid (Rd wa w.heap.size v.at_ m) := hidv_ (by rw [← hm]; exact ((HOK.out.rd.take 30).below H4.out.un).below (hba.mono H4.out.un.size))
          have hKa := K4.out.below hba K4.out.lt
          obtain ⟨ca0, ca1, ca2, ca3⟩ := box_cells hKa
          have HKA := hidv_ hKa
          clear hr' hc1 hc2 hr hm hown hba hKa
          go_upto_region 16 with (first
            | (refine wpList_min2 rfl (.tmp 99) (.const (.int .i64 30)) _ rfl v.text.length 30 r rfl rfl HMIN.out ?_)
            | (at_builtin; refine wpList_app rfl (.tmp 94) (.tmp 101) rfl HOWN.out rfl r v.cap rfl RDA.out HML.out ?_ ?_ ?_; (simp; omega); (simp [HBA.out.size]); (intro A' c' w5 k1 k2 k3; have k1' : Own8 w5 w4.heap.size (.slice A' r c') m := (by simpa using k1); have O5 := hidv_ k1'; have G5 := hidv_ k2; clear k1 k1' k2 k3)))
          clear c40 c41 c42 c43 ca0 ca1 ca2 ca3 hx r3 r4 r5 hsl hwa
          have hb5 : Below w4.heap.size w4 w5 := HBA.out.grown G5.out HBA.out.size (fun k e => by simp [Value.ownBlock] at e; omega)
          have K5 := hidv_ (K4.out.below hb5 K4.out.lt)
          have H5 := hidv_ (H4.out.avoid (Y := (fun b => b = B ∨ (Value.slice A' r c').ownBlock = some b)) hb5 (fun k hk => by
            rcases hk with hk | hk
            · subst hk; exact ⟨K5.out.lt, .inl rfl⟩
            · have := World.ownsRow.lt O5.out k hk
              exact ⟨this.2, .inr this.1⟩))
          have HB4 := hidv_ (H4.out.un.size)
          clear hb5 G5 HOWN HBA RDA HKA
          generalize w4.heap.size = b4 at *
          refine region_byJF [103, 104, 105, 106, 107, 108, 109, 110, 111, 112, 113, 114] (fun _ => True) (fun _ _ => True) (fun jj vv _ => SnR p rp B v.num ez A' r c' m jj vv) (fun D _ W => CpJ w (fun b => b = B ∨ (Value.slice A' r c').ownBlock = some b) p q n L L' rp rq rs Z Z' 4 10 (fun W => Bk W B 41 v.row ∧ Own8 W b4 (.slice A' r c') m) D W) (by kernel_rfl) (by kernel_rfl) (by kernel_rfl) (by kernel_rfl) (fun j v w w' hT hr => ?_) (fun j v w hlt hj _ => ?_) trivial ?_ ⟨by simpa using (H5.out.below ((Below.refl _ _).drew)), K5.out, ownsRow_heap O5.out (fun g hg => rfl)⟩ ?_
          · exact hr
          · rcases j with _ | _ | _ | _ | _ | _ | _ | _ | _ | _ | _ | _ | j
            all_goals first
              | (exfalso; simp [dstOf] at hj; done)
              | trivial
          · refine ⟨fun D a W hC hd hsz hf hv hJ hL hW K hK => ?_, fun D a W hC hd hsz hf hv hJ hL hW K hK => ?_, fun D a W hC hd hsz hf hv hJ hL hW K hK => ?_, fun D a W hC hd hsz hf hv hJ hL hW K hK => ?_, fun D a W hC hd hsz hf hv hJ hL hW K hK => ?_, fun D a W hC hd hsz hf hv hJ hL hW K hK => ?_, fun D a W hC hd hsz hf hv hJ hL hW K hK => ?_, fun D a W hC hd hsz hf hv hJ hL hW K hK => ?_, fun D a W hC hd hsz hf hv hJ hL hW K hK => ?_, fun D a W hC hd hsz hf hv hJ hL hW K hK => ?_, fun D a W hC hd hsz hf hv hJ hL hW K hK => ?_, fun D a W hC hd hsz hf hv hJ hL hW K hK => ?_, trivial⟩
            · clear hsz
              have e1 := slot_of (a := a) (s := 7) (v := .pointer (some ⟨p, 0, none⟩)) (hf 7 (by kernel_rfl))
              refine step_run (wanted_none rfl) (v := .pointer (some ⟨p, 0, none⟩)) (w' := W) ?_ (hK _ _ trivial trivial rfl (hJ.same 0 (by decide)))
              go_simp
            · clear hsz
              have e1 := slot_of (a := a) (s := 10) (v := .pointer (some ⟨B, 0, none⟩)) (hf 10 (by kernel_rfl))
              refine step_run (wanted_none rfl) (v := .pointer (some ⟨B, 1, none⟩)) (w' := W) ?_ (hK _ _ trivial trivial rfl (hJ.same 1 (by decide)))
              go_simp
            · clear hsz
              have e1 := slot_of (a := a) (s := 104) (v := .pointer (some ⟨B, 1, none⟩)) (hv 1 (by kernel_rfl))
              obtain ⟨b0, b1, b2, b3⟩ := box_cells hJ.bk.1
              refine step_run (wanted_none rfl) (v := .int .i64 v.num) (w' := W) ?_ (hK _ _ trivial trivial rfl (hJ.same 2 (by decide)))
              go_simp
            · clear hsz
              have e1 := slot_of (a := a) (s := 11) (v := .slice A' r c') (hf 11 (by kernel_rfl))
              refine step_run (wanted_none rfl) (v := .slice A' r c') (w' := W) ?_ (hK _ _ trivial trivial rfl (hJ.same 3 (by decide)))
              go_simp
            · clear hsz
              have e1 := slot_of (a := a) (s := 103) (v := .pointer (some ⟨p, 0, none⟩)) (hv 0 (by kernel_rfl))
              have e2 := slot_of (a := a) (s := 105) (v := .int .i64 v.num) (hv 2 (by kernel_rfl))
              have e3 := slot_of (a := a) (s := 106) (v := .slice A' r c') (hv 3 (by kernel_rfl))
              refine step_callx 10 #[.pointer (some ⟨p, 0, none⟩), .int .i64 v.num, .slice A' r c'] (w' := W) (wanted_none rfl) ?_ ((C1.out W _ _ _ _ (hJ.before_net hL) hJ.bk.2.rd.1).mono fun e w2 ⟨he, h1, hk⟩ => ⟨_, he, hK _ _ trivial trivial rfl (CpJ.net (by decide) h1 ⟨(hk.2 B (.inl rfl)).trans hJ.bk.1, ownsRow_heap hJ.bk.2 (fun g hg => hk.2 g (.inr hg))⟩)⟩)
              go_simp
            · clear hsz
              have e1 := slot_of (a := a) (s := 8) (v := .pointer (some ⟨rp, 0, none⟩)) (hf 8 (by kernel_rfl))
              refine step_run (wanted_none rfl) (v := .pointer (some ⟨rp, 0, none⟩)) (w' := W) ?_ (hK _ _ trivial trivial rfl (hJ.same 5 (by decide)))
              go_simp
            · clear hsz
              have e1 := slot_of (a := a) (s := 10) (v := .pointer (some ⟨B, 0, none⟩)) (hf 10 (by kernel_rfl))
              refine step_run (wanted_none rfl) (v := .pointer (some ⟨B, 1, none⟩)) (w' := W) ?_ (hK _ _ trivial trivial rfl (hJ.same 6 (by decide)))
              go_simp
            · clear hsz
              have e1 := slot_of (a := a) (s := 109) (v := .pointer (some ⟨B, 1, none⟩)) (hv 6 (by kernel_rfl))
              obtain ⟨b0, b1, b2, b3⟩ := box_cells hJ.bk.1
              refine step_run (wanted_none rfl) (v := .int .i64 v.num) (w' := W) ?_ (hK _ _ trivial trivial rfl (hJ.same 7 (by decide)))
              go_simp
            · clear hsz
              have e1 := slot_of (a := a) (s := 11) (v := .slice A' r c') (hf 11 (by kernel_rfl))
              refine step_run (wanted_none rfl) (v := .slice A' r c') (w' := W) ?_ (hK _ _ trivial trivial rfl (hJ.same 8 (by decide)))
              go_simp
            · clear hsz
              have e1 := slot_of (a := a) (s := 111) (v := .slice A' r c') (hv 8 (by kernel_rfl))
              have cv := conv_strn hJ.bk.2.rd.1 r c' HML.out
              refine step_run (wanted_none rfl) (v := .string (strOf m)) (w' := W) ?_ (hK _ _ trivial trivial rfl (hJ.same 9 (by decide)))
              go_simp
            · clear hsz
              have e1 := slot_of (a := a) (s := 108) (v := .pointer (some ⟨rp, 0, none⟩)) (hv 5 (by kernel_rfl))
              have e2 := slot_of (a := a) (s := 110) (v := .int .i64 v.num) (hv 7 (by kernel_rfl))
              have e3 := slot_of (a := a) (s := 112) (v := .string (strOf m)) (hv 9 (by kernel_rfl))
              refine step_callx 16 #[.pointer (some ⟨rp, 0, none⟩), .int .i64 v.num, .string (strOf m)] (w' := W) (wanted_none rfl) ?_ ((C2.out W _ _ (hJ.before_ref hL)).mono fun e w2 ⟨he, h1, hk⟩ => ⟨_, he, hK _ _ trivial trivial rfl (CpJ.ref (by decide) h1 ⟨(hk.2 B (.inl rfl)).trans hJ.bk.1, ownsRow_heap hJ.bk.2 (fun g hg => hk.2 g (.inr hg))⟩)⟩)
              go_simp
            · clear hsz
              have e1 := slot_of (a := a) (s := 107) (v := .int .i64 ez) (hv 4 (by kernel_rfl))
              have e2 := slot_of (a := a) (s := 113) (v := .int .i64 ez) (hv 10 (by kernel_rfl))
              refine step_run (wanted_none rfl) (v := .bool false) (w' := W) ?_ (hK _ _ trivial trivial rfl (hJ.same 11 (by decide)))
              go_simp
          · intro f w6 hC hv L2 hL2 hJ2
            obtain ⟨aE, hJ, hfr⟩ := hJ2
            have H6 := hidv_ (hJ.both (hL2 4 (by decide)) (hL2 10 (by decide)))
            have O6 := hidv_ hJ.bk.2
            have ev : f 114 = .bool false := hv 11 (by decide)
            simp only [framed, List.foldl_cons, List.foldl_nil, List.setIfInBounds_toArray, List.set_cons_succ, List.set_cons_zero]
            rw [ev]
            clear hv hC hJ hfr hL2 ev
            rename_i K hK
            refine hK _ _ ?_
            go_upto_region 19 with fail
            go_loopw [12] (fun i wq => ∃ (a : Nat) (ms : List UInt8), a ≤ r ∧ i = .int .i64 a ∧ Hid (TwN w wq (fun b => b = B ∨ (Value.slice A' r c').ownBlock = some b) p q n L' rp rq rs Z') ∧ Hid (Own8 wq b4 (.slice A' r c') ms)) (fun i _ => r - (intOf i).toNat)
            case atStart => exact ⟨0, m, Nat.zero_le _, rfl, H6, O6⟩
            case round =>
              obtain ⟨a, ms, ha, rfl, HQ, HO⟩ := hrel
              by_cases hlt2 : a < r
              · have he1 : decide ((a : Int) < (r : Int)) = true := decide_eq_true (by omega)
                have he2 : decide (a < r) = true := decide_eq_true hlt2
                obtain ⟨g5, hA⟩ := HO.out.block_ (by omega)
                subst hA
                obtain ⟨y, hy⟩ : ∃ y, ms.getD a 0 = y := ⟨_, rfl⟩
                have hcz := HO.out.cellz a hlt2
                rw [hy] at hcz
                have hfz := HO.out.frozenz a
                have hx1 := xor_one y
                obtain ⟨hput, hge⟩ := HO.out.put_ a (y ^^^ 1)
                have HPUT := hidv_ hput
                have HW := hidv_ (HQ.out.other [g5] (fun k hk => by rw [List.mem_singleton.1 hk]; exact .inr rfl) (fun k hk => by rw [List.mem_singleton.1 hk]; exact Nat.le_trans HB4.out hge) (Untouched.set (w := wr) (F := [g5]) g5 a (by simp) (.int .u8 ((y ^^^ 1).toNat : Int))))
                have t1 : (0 : Int) ≤ (a : Int) := by omega
                have t2 : (a : Int) < (r : Int) := by omega
                clear hput hy
                go_wp2
                go_roundw
                case rel => exact ⟨a + 1, _, by omega, by go_num, HW, HPUT⟩
                case measure => simp [intOf]; omega
              · have he1 : decide ((a : Int) < (r : Int)) = false := decide_eq_false (by omega)
                have he2 : decide (a < r) = false := decide_eq_false hlt2
                go_wp2
                go_roundw
                case rel => exact ⟨j + 1, L', Z', by have := HLT.out; omega, by go_num, hidv_ (HQ.out.wide (fun k hk => hk.elim)), hidv_ (HR6.out.more (Nat.le_succ _))⟩
                case measure => have := HLT.out; simp [intOf]; omega
        · skip
          have r3 : (x : Int).tmod 4 = 1 := by rw [Int.tmod_eq_emod_of_nonneg (by omega)]; omega
          have r4 : IntKind.u64.wrap 1 = 1 := by decide
          have r5 : IntKind.i64.wrap 1 = 1 := by decide
          clear hd hxb
          have bt := both_take H4.out HR.out (by omega) v.num v.k
          go_upto_region 24 with (go_at_call 7; ((with_reducible refine bt.mono ?_); clear bt; rintro e w5 ⟨A, r, c, m, ez, L', rfl, hm, h30, hrd, h5, hk5, hnext⟩; have H5 := hidv_ h5; have K5 : Hid (Bk w5 B 41 v.row) := hidv_ ((hk5.2 B rfl).trans K4.out); have R5 := hidv_ hrd; have HML := hidv_ hm; clear h5 hk5 hrd hm))
          clear c40 c41 c42 c43 hx r3 r4 r5
          obtain ⟨c50, c51, c52, c53⟩ := box_cells K5.out
          have bt := hnext w5 _ H5.out
          clear hnext
          go_upto_region 25 with (go_at_call 17; ((with_reducible refine bt.mono ?_); clear bt; rintro e w6 ⟨rfl, Z', h6, hr6, hk6⟩; have H6 := hidv_ h6; have HR6 := hidv_ hr6; have R6 := hidv_ (R5.out.keepX HML.out hk6 (fun b hb => .inr hb)); clear h6 hr6 hk6))
          clear c50 c51 c52 c53
          have CV := conv_strn R6.out r c HML.out
          have SN := str_neq m
          go_wp2
          go_roundw
          case rel => exact ⟨j + 1, L', Z', by have := HLT.out; omega, by go_num, hidv_ (H6.out.wide (fun k hk => hk.elim)), HR6⟩
          case measure => have := HLT.out; simp [intOf]; omega
        · skip
          have r3 : (x : Int).tmod 4 = 2 := by rw [Int.tmod_eq_emod_of_nonneg (by omega)]; omega
          have r4 : IntKind.u64.wrap 2 = 2 := by decide
          have r5 : IntKind.i64.wrap 2 = 2 := by decide
          clear hd hxb
          obtain ⟨ez, L', Z', hr', hc1, hc2⟩ := both_copy H4.out HR.out v.num v.k
          have HR6 := hidv_ hr'
          have C1 := hidv_ hc1
          have C2 := hidv_ hc2
          clear hr' hc1 hc2
          go_upto_region 28 with fail
          clear c40 c41 c42 c43 hx r3 r4 r5
          refine region_byJF [158, 159, 160, 161, 162, 163, 164, 165, 166, 167, 168, 169, 170] (fun _ => True) (fun _ _ => True) (fun jj vv _ => CpR p rp B v.num v.k ez jj vv) (fun D _ W => CpJ w (fun k => k = B) p q n L L' rp rq rs Z Z' 5 11 (fun W => Bk W B 41 v.row) D W) (by kernel_rfl) (by kernel_rfl) (by kernel_rfl) (by kernel_rfl) (fun j v w w' hT hr => ?_) (fun j v w hlt hj _ => ?_) trivial ?_ ⟨by simpa using (H4.out.below ((Below.refl _ _).drew)), K4.out⟩ ?_
          · exact hr
          · rcases j with _ | _ | _ | _ | _ | _ | _ | _ | _ | _ | _ | _ | _ | j
            all_goals first
              | (exfalso; simp [dstOf] at hj; done)
              | trivial
          · refine ⟨fun D a W hC hd hsz hf hv hJ hL hW K hK => ?_, fun D a W hC hd hsz hf hv hJ hL hW K hK => ?_, fun D a W hC hd hsz hf hv hJ hL hW K hK => ?_, fun D a W hC hd hsz hf hv hJ hL hW K hK => ?_, fun D a W hC hd hsz hf hv hJ hL hW K hK => ?_, fun D a W hC hd hsz hf hv hJ hL hW K hK => ?_, fun D a W hC hd hsz hf hv hJ hL hW K hK => ?_, fun D a W hC hd hsz hf hv hJ hL hW K hK => ?_, fun D a W hC hd hsz hf hv hJ hL hW K hK => ?_, fun D a W hC hd hsz hf hv hJ hL hW K hK => ?_, fun D a W hC hd hsz hf hv hJ hL hW K hK => ?_, fun D a W hC hd hsz hf hv hJ hL hW K hK => ?_, fun D a W hC hd hsz hf hv hJ hL hW K hK => ?_, trivial⟩
            · clear hsz
              have e1 := slot_of (a := a) (s := 7) (v := .pointer (some ⟨p, 0, none⟩)) (hf 7 (by kernel_rfl))
              refine step_run (wanted_none rfl) (v := .pointer (some ⟨p, 0, none⟩)) (w' := W) ?_ (hK _ _ trivial trivial rfl (hJ.same 0 (by decide)))
              go_simp
            · clear hsz
              have e1 := slot_of (a := a) (s := 10) (v := .pointer (some ⟨B, 0, none⟩)) (hf 10 (by kernel_rfl))
              refine step_run (wanted_none rfl) (v := .pointer (some ⟨B, 1, none⟩)) (w' := W) ?_ (hK _ _ trivial trivial rfl (hJ.same 1 (by decide)))
              go_simp
            · clear hsz
              have e1 := slot_of (a := a) (s := 159) (v := .pointer (some ⟨B, 1, none⟩)) (hv 1 (by kernel_rfl))
              obtain ⟨b0, b1, b2, b3⟩ := box_cells hJ.bk
              refine step_run (wanted_none rfl) (v := .int .i64 v.num) (w' := W) ?_ (hK _ _ trivial trivial rfl (hJ.same 2 (by decide)))
              go_simp
            · clear hsz
              have e1 := slot_of (a := a) (s := 10) (v := .pointer (some ⟨B, 0, none⟩)) (hf 10 (by kernel_rfl))
              refine step_run (wanted_none rfl) (v := .pointer (some ⟨B, 2, none⟩)) (w' := W) ?_ (hK _ _ trivial trivial rfl (hJ.same 3 (by decide)))
              go_simp
            · clear hsz
              have e1 := slot_of (a := a) (s := 161) (v := .pointer (some ⟨B, 2, none⟩)) (hv 3 (by kernel_rfl))
              obtain ⟨b0, b1, b2, b3⟩ := box_cells hJ.bk
              refine step_run (wanted_none rfl) (v := .int .i64 v.k) (w' := W) ?_ (hK _ _ trivial trivial rfl (hJ.same 4 (by decide)))
              go_simp
            · clear hsz
              have e1 := slot_of (a := a) (s := 158) (v := .pointer (some ⟨p, 0, none⟩)) (hv 0 (by kernel_rfl))
              have e2 := slot_of (a := a) (s := 160) (v := .int .i64 v.num) (hv 2 (by kernel_rfl))
              have e3 := slot_of (a := a) (s := 162) (v := .int .i64 v.k) (hv 4 (by kernel_rfl))
              refine step_callx 11 #[.pointer (some ⟨p, 0, none⟩), .int .i64 v.num, .int .i64 v.k] (w' := W) (wanted_none rfl) ?_ ((C1.out W _ _ (hJ.before_net hL)).mono fun e w2 ⟨he, h1, hk⟩ => ⟨_, he, hK _ _ trivial trivial rfl (CpJ.net (by decide) h1 ((hk.2 B rfl).trans hJ.bk))⟩)
              go_simp
            · clear hsz
              have e1 := slot_of (a := a) (s := 8) (v := .pointer (some ⟨rp, 0, none⟩)) (hf 8 (by kernel_rfl))
              refine step_run (wanted_none rfl) (v := .pointer (some ⟨rp, 0, none⟩)) (w' := W) ?_ (hK _ _ trivial trivial rfl (hJ.same 6 (by decide)))
              go_simp
            · clear hsz
              have e1 := slot_of (a := a) (s := 10) (v := .pointer (some ⟨B, 0, none⟩)) (hf 10 (by kernel_rfl))
              refine step_run (wanted_none rfl) (v := .pointer (some ⟨B, 1, none⟩)) (w' := W) ?_ (hK _ _ trivial trivial rfl (hJ.same 7 (by decide)))
              go_simp
            · clear hsz
              have e1 := slot_of (a := a) (s := 165) (v := .pointer (some ⟨B, 1, none⟩)) (hv 7 (by kernel_rfl))
              obtain ⟨b0, b1, b2, b3⟩ := box_cells hJ.bk
              refine step_run (wanted_none rfl) (v := .int .i64 v.num) (w' := W) ?_ (hK _ _ trivial trivial rfl (hJ.same 8 (by decide)))
              go_simp
            · clear hsz
              have e1 := slot_of (a := a) (s := 10) (v := .pointer (some ⟨B, 0, none⟩)) (hf 10 (by kernel_rfl))
              refine step_run (wanted_none rfl) (v := .pointer (some ⟨B, 2, none⟩)) (w' := W) ?_ (hK _ _ trivial trivial rfl (hJ.same 9 (by decide)))
              go_simp
            · clear hsz
              have e1 := slot_of (a := a) (s := 167) (v := .pointer (some ⟨B, 2, none⟩)) (hv 9 (by kernel_rfl))
              obtain ⟨b0, b1, b2, b3⟩ := box_cells hJ.bk
              refine step_run (wanted_none rfl) (v := .int .i64 v.k) (w' := W) ?_ (hK _ _ trivial trivial rfl (hJ.same 10 (by decide)))
              go_simp
            · clear hsz
              have e1 := slot_of (a := a) (s := 164) (v := .pointer (some ⟨rp, 0, none⟩)) (hv 6 (by kernel_rfl))
              have e2 := slot_of (a := a) (s := 166) (v := .int .i64 v.num) (hv 8 (by kernel_rfl))
              have e3 := slot_of (a := a) (s := 168) (v := .int .i64 v.k) (hv 10 (by kernel_rfl))
              refine step_callx 18 #[.pointer (some ⟨rp, 0, none⟩), .int .i64 v.num, .int .i64 v.k] (w' := W) (wanted_none rfl) ?_ ((C2.out W _ _ (hJ.before_ref hL)).mono fun e w2 ⟨he, h1, hk⟩ => ⟨_, he, hK _ _ trivial trivial rfl (CpJ.ref (by decide) h1 ((hk.2 B rfl).trans hJ.bk))⟩)
              go_simp
            · clear hsz
              have e1 := slot_of (a := a) (s := 163) (v := .int .i64 ez) (hv 5 (by kernel_rfl))
              have e2 := slot_of (a := a) (s := 169) (v := .int .i64 ez) (hv 11 (by kernel_rfl))
              refine step_run (wanted_none rfl) (v := .bool false) (w' := W) ?_ (hK _ _ trivial trivial rfl (hJ.same 12 (by decide)))
              go_simp
          · intro f w5 hC hv L2 hL2 hJ2
            obtain ⟨aE, hJ, hfr⟩ := hJ2
            have H5 := hidv_ (hJ.both (hL2 5 (by decide)) (hL2 11 (by decide)))
            have ev : f 170 = .bool false := hv 12 (by decide)
            simp only [framed, List.foldl_cons, List.foldl_nil, List.setIfInBounds_toArray, List.set_cons_succ, List.set_cons_zero]
            rw [ev]
            clear hv hC hJ hfr hL2 ev
            rename_i K hK
            refine hK _ _ ?_
            go_wp2
            go_roundw
            case rel => exact ⟨j + 1, L', Z', by have := HLT.out; omega, by go_num, hidv_ (H5.out.wide (fun k hk => hk.elim)), hidv_ (HR6.out.more (Nat.le_succ _))⟩
            case measure => have := HLT.out; simp [intOf]; omega
        · skip
          have r3 : (x : Int).tmod 4 = 3 := by rw [Int.tmod_eq_emod_of_nonneg (by omega)]; omega
          have r4 : IntKind.u64.wrap 3 = 3 := by decide
          have r5 : IntKind.i64.wrap 3 = 3 := by decide
          clear hd hxb
          by_cases hz : v.num < 0 ∨ (n : Int) ≤ v.num
          · have cc : Calls Try.prog 8 #[.pointer (some ⟨p, 0, none⟩), .int .i64 v.num] w4 fun e w' => e = .returned (.tuple #[]) ∧ w4 = w' := by
              obtain ⟨F4, G4, hf⟩ := H4.out
              exact clear_no v.num (inbox_no hf.net.net v.num hz)
            by_cases h0 : v.num < 0
            · have d3 : decide (0 ≤ v.num) = false := decide_eq_false (by omega)
              clear hz h0
              go_wp2_with (go_at_call 8; ((with_reducible refine cc.mono ?_); clear cc; rintro e wz ⟨rfl, rfl⟩))
              go_roundw
              case rel => exact ⟨j + 1, L, Z, by have := HLT.out; omega, by go_num, hidv_ (H4.out.wide (fun k hk => hk.elim)), hidv_ (HR.out.more (Nat.le_succ _))⟩
              case measure => have := HLT.out; simp [intOf]; omega
            · have d3 : decide (0 ≤ v.num) = true := decide_eq_true (by omega)
              have d4 : decide (v.num < (n : Int)) = false := decide_eq_false (by omega)
              clear hz h0
              go_wp2_with (go_at_call 8; ((with_reducible refine cc.mono ?_); clear cc; rintro e wz ⟨rfl, rfl⟩))
              go_roundw
              case rel => exact ⟨j + 1, L, Z, by have := HLT.out; omega, by go_num, hidv_ (H4.out.wide (fun k hk => hk.elim)), hidv_ (HR.out.more (Nat.le_succ _))⟩
              case measure => have := HLT.out; simp [intOf]; omega
          · obtain ⟨k, hk⟩ : ∃ k : Nat, v.num = (k : Int) := ⟨v.num.toNat, by omega⟩
            have hkn : k < n := by omega
            have d3 : decide ((0 : Int) ≤ (k : Int)) = true := decide_eq_true (by omega)
            have d4 : decide ((k : Int) < (n : Int)) = true := decide_eq_true (by omega)
            rw [hk] at c41
            have cc := two_clear H4.out k hkn
            clear hz
            go_upto_region 32 with (go_at_call 8; ((with_reducible refine cc.mono ?_); clear cc; rintro e w5 ⟨rfl, h5, hk5⟩; have H5 := hidv_ h5; have K5 : Hid (Bk w5 B 41 v.row) := hidv_ ((hk5.2 B rfl).trans K4.out); clear h5 hk5))
            clear c40 c41 c42 c43 hx r3 r4 r5
            obtain ⟨c50, c51, c52, c53⟩ := box_cells K5.out
            rw [hk] at c51
            have HK := hidv_ hk
            go_upto_region 33 with fail
            have V : Hid (∀ W, Below w5.heap.size w5 W → W.cell? ⟨rp, 0, none⟩ = some (.slice (some ⟨rq, 0, none⟩) n n) ∧ W.cell? ⟨B, 1, none⟩ = some (.int .i64 (k : Int))) := hidv_ fun W hW => ⟨((H5.out.below hW).ref_clear k hkn).2.2.2.cell 0, by have := (box_cells (K5.out.below hW K5.out.lt)).2.1; rw [HK.out] at this; exact this⟩
            clear c50 c51 c52 c53 hk
            refine region_quiet_tail (C := fun W => Below w5.heap.size w5 W) 7 (by kernel_rfl) (by kernel_rfl) ((Below.refl _ _).drew) ?_
            simp only [List.take_succ_cons, List.take_zero]
            repeat (go_big_quiet_want; (first
              | (refine BigFrame.quiet_move _ rfl ?_; go_simp)
              | (refine quiet_run (.pointer (some ⟨rp, 0, none⟩)) ?_ ?_; (focus (intro W hW; go_simp; done)); go_simp)
              | (refine quiet_run (.pointer (some ⟨B, 1, none⟩)) ?_ ?_; (focus (intro W hW; go_simp; done)); go_simp)
              | (refine quiet_run (.slice (some ⟨rq, 0, none⟩) n n) ?_ ?_; (focus (intro W hW; have h := (V.out W hW).1; go_simp; done)); go_simp)
              | (refine quiet_run (.int .i64 (k : Int)) ?_ ?_; (focus (intro W hW; have h := (V.out W hW).2; go_simp; done)); go_simp)
              | (refine quiet_run (.pointer (some ⟨rq, k, none⟩)) ?_ ?_; (focus (intro W hW; go_simp; done)); go_simp)); go_big_quiet_on)
            refine wpQuiet_nil ?_
            intro w6 hw6
            simp only [List.drop_succ_cons, List.drop_zero]
            obtain ⟨t1, ⟨vv, t2⟩, t3, _⟩ := (H5.out.below hw6).ref_clear k hkn
            have T1 := hidv_ t1
            clear hw6 V t1
            go_wp2
            go_roundw
            case rel => exact ⟨j + 1, _, _, by have := HLT.out; omega, by go_num, hidv_ (T1.out.wide (fun k hk => hk.elim)), hidv_ ((HR.out.clear k hkn).more (Nat.le_succ _))⟩
            case measure => have := HLT.out; simp [intOf]; omega
      · by_cases hjn : j < n0
        · have hd1 : decide ((j : Int) < (n0 : Int)) = true := decide_eq_true (by omega)
          have hd2 : decide ((j : Int) < 60) = false := decide_eq_false (by omega)
          have hd3 : decide (j < n0) = true := decide_eq_true (by omega)
          have hd4 : decide (j < 60) = false := decide_eq_false (by omega)
          have HJ60 := hidv_ (show j ≤ 60 by omega)
          go_upto_region 35 with fail
          go_loopw [17] (fun i wr => ∃ (a : Nat), a ≤ n ∧ i = .int .i64 a ∧ Hid (TwN w wr (fun _ => False) p q n L rp rq rs Z)) (fun i _ => n - (intOf i).toNat)
          case atStart => exact ⟨0, Nat.zero_le _, rfl, HI⟩
          case round =>
            obtain ⟨a, ha, rfl, HE⟩ := hrel
            by_cases hlt3 : a < n
            · have he1 : decide ((a : Int) < (n : Int)) = true := decide_eq_true (by omega)
              have he2 : decide (a < n) = true := decide_eq_true hlt3
              have hrl := HR.out.rel a hlt3
              have hcp := HR.out.cap a hlt3
              have hsh := HR.out.short (a * 2 + 1)
              obtain ⟨T, hT⟩ : ∃ T, L.getD (a * 2 + 1) [] = T := ⟨_, rfl⟩
              obtain ⟨wl, hwl⟩ : ∃ x, (L.getD (a * 2) []).length = x := ⟨_, rfl⟩
              rw [hT] at hsh hcp hrl
              obtain ⟨sl, hsl⟩ : ∃ x, T.length = x := ⟨_, rfl⟩
              have cS : Calls Try.prog 13 #[.pointer (some ⟨p, 0, none⟩), .int .i64 (a : Int)] wr fun e w' => ∃ A c G, e = .returned (.slice A sl c) ∧ RowF w' G (.slice A sl c) T ∧ Below wr.heap.size wr w' := by
                obtain ⟨F4, G4, hf⟩ := HE.out
                have c := seen_yes hf.net.net a hlt3 sl (by rw [hT]; exact hsl) (by have := HJ60.out; omega) (by rw [hT]; exact fun m hm => Nat.le_trans (hsh m hm) (by omega))
                rw [hT] at c
                exact c.mono fun e w' ⟨A, c, G, h1, h2, h3, h4⟩ => ⟨A, c, G, h1, h2, h4⟩
              have HRL3 := hidv_ hrl
              have HSL := hidv_ hsl
              have HWL := hidv_ hwl
              have HS60 := hidv_ (show sl ≤ 60 by have := HJ60.out; omega)
              clear hrl hcp hsh hT hsl hwl
              go_upto_region 38 with (go_at_call 13; ((with_reducible refine cS.mono ?_); clear cS; rintro e w5 ⟨AS, cSS, GS, rfl, hrow, hb⟩; have ROW := hidv_ hrow; have HE5 := hidv_ (HE.out.below hb); clear hrow hb))
              have hx5 : ∃ A1 c1 A2 c2, w5.cell? ⟨rp, 0, none⟩ = some (.slice (some ⟨rq, 0, none⟩) n n) ∧ w5.cell? ⟨rp, 1, none⟩ = some (.slice (some ⟨rs, 0, none⟩) n n) ∧ w5.cell? ⟨rq, a, none⟩ = some (.slice A1 wl c1) ∧ w5.cell? ⟨rs, a, none⟩ = some (.slice A2 sl c2) ∧ (∃ G, RowS w5 G (.slice A2 sl c2) T) ∧ rp < w5.heap.size ∧ rq < w5.heap.size ∧ rs < w5.heap.size := by
                obtain ⟨F5, G5, hf⟩ := HE5.out
                obtain ⟨A1, c1, x1, _⟩ := hf.ref.lo a hlt3
                obtain ⟨A2, c2, x2, x3, _⟩ := hf.ref.hi a hlt3
                rw [HRL3.out.1, HWL.out] at x1
                rw [HRL3.out.2, HSL.out] at x2 x3
                exact ⟨A1, c1, A2, c2, hf.ref.bp.cell 0, hf.ref.bp.cell 1, x1, x2, ⟨_, x3⟩, hf.ref.bp.lt, hf.ref.hF rq hf.ref.hq, hf.ref.hF rs hf.ref.hs⟩
              obtain ⟨A1, c1, A2, c2, y1, y2, y3, y4, ⟨GR, y5⟩, l1, l2, l3⟩ := hx5
              have CF : Hid (∀ W, Below w5.heap.size w5 W → W.cell? ⟨rp, 0, none⟩ = some (.slice (some ⟨rq, 0, none⟩) n n) ∧ W.cell? ⟨rp, 1, none⟩ = some (.slice (some ⟨rs, 0, none⟩) n n) ∧ W.cell? ⟨rq, a, none⟩ = some (.slice A1 wl c1) ∧ W.cell? ⟨rs, a, none⟩ = some (.slice A2 sl c2)) := hidv_ fun W hW => ⟨(hW.cell (p := ⟨rp, 0, none⟩) l1).trans y1, (hW.cell (p := ⟨rp, 1, none⟩) l1).trans y2, (hW.cell (p := ⟨rq, a, none⟩) l2).trans y3, (hW.cell (p := ⟨rs, a, none⟩) l3).trans y4⟩
              have ROWS := hidv_ y5
              have LN : Hid (∀ W, Below w5.heap.size w5 W → Calls Try.prog 12 #[.pointer (some ⟨p, 0, none⟩), .int .i64 (a : Int)] W fun e w' => e = .returned (.int .i64 (wl : Int)) ∧ Below w5.heap.size w5 w') := hidv_ fun W hW => by
                obtain ⟨F5, G5, hf⟩ := HE5.out.below hW
                exact (len_yes hf.net.net a hlt3 wl HWL.out).mono fun e w' h => ⟨h.1, by rw [← h.2]; exact hW⟩
              have HLT3 := hidv_ hlt3
              have t1 : (0 : Int) ≤ (a : Int) := by omega
              have t2 : (a : Int) < (n : Int) := by omega
              clear y1 y2 y3 y4 y5 l1 l2 l3
              refine region_quiet_in (C := fun W => Below w5.heap.size w5 W) (by kernel_rfl) (by kernel_rfl) ((Below.refl _ _).drew) ?_
              repeat (first | go_big_quiet_skip | (go_big_quiet_want; (first
                | (refine BigFrame.quiet_move _ rfl ?_; go_simp)
                | (refine BigFrame.quiet_assign _ rfl ?_; go_simp)
                | (refine quiet_call (.int .i64 (wl : Int)) 12 #[.pointer (some ⟨p, 0, none⟩), .int .i64 (a : Int)] ?_ LN.out ?_; (focus (intro W; go_simp; done)); go_simp)
                | (refine quiet_run (.bool false) ?_ ?_; (focus (intro W hW; go_simp; done)); go_simp)
                | (refine quiet_run (.pointer (some ⟨rp, 0, none⟩)) ?_ ?_; (focus (intro W hW; go_simp; done)); go_simp)
                | (refine quiet_run (.pointer (some ⟨rp, 1, none⟩)) ?_ ?_; (focus (intro W hW; go_simp; done)); go_simp)
                | (refine quiet_run (.slice (some ⟨rq, 0, none⟩) n n) ?_ ?_; (focus (intro W hW; have h := CF.out W hW; obtain ⟨h1, h2, h3, h4⟩ := h; go_simp; done)); go_simp)
                | (refine quiet_run (.slice (some ⟨rs, 0, none⟩) n n) ?_ ?_; (focus (intro W hW; have h := CF.out W hW; obtain ⟨h1, h2, h3, h4⟩ := h; go_simp; done)); go_simp)
                | (refine quiet_run (.pointer (some ⟨rq, a, none⟩)) ?_ ?_; (focus (intro W hW; go_simp; done)); go_simp)
                | (refine quiet_run (.pointer (some ⟨rs, a, none⟩)) ?_ ?_; (focus (intro W hW; go_simp; done)); go_simp)
                | (refine quiet_run (.slice A1 wl c1) ?_ ?_; (focus (intro W hW; have h := CF.out W hW; obtain ⟨h1, h2, h3, h4⟩ := h; go_simp; done)); go_simp)
                | (refine quiet_run (.slice A2 sl c2) ?_ ?_; (focus (intro W hW; have h := CF.out W hW; obtain ⟨h1, h2, h3, h4⟩ := h; go_simp; done)); go_simp)
                | (refine quiet_run (.int .i64 (wl : Int)) ?_ ?_; (focus (intro W hW; go_simp; done)); go_simp)
                | (refine quiet_run (.int .i64 (sl : Int)) ?_ ?_; (focus (intro W hW; go_simp; done)); go_simp)); go_big_quiet_on))
              refine wpQuiet_nil ?_
              intro w7 hw7
              have B7 := hidv_ hw7
              clear hw7 LN
              go_upto_region 41 with fail
              go_loopw [19] (fun i wr => ∃ (b : Nat), b ≤ sl ∧ i = .int .i64 b ∧ Hid (Below w5.heap.size w5 wr)) (fun i _ => sl - (intOf i).toNat)
              case atStart => exact ⟨0, Nat.zero_le _, rfl, B7⟩
              case round =>
                obtain ⟨b, hb, rfl, HBB⟩ := hrel
                by_cases hlt4 : b < sl
                · have hs60 := HS60.out
                  have hf1 : decide ((b : Int) < (sl : Int)) = true := decide_eq_true (by omega)
                  have hf2 : decide (b < sl) = true := decide_eq_true hlt4
                  obtain ⟨gS, uS, rfl, hcu, hbu, hgS⟩ := ROW.out.cell b (by rw [HSL.out]; exact hlt4)
                  obtain ⟨gR, rfl, hcr, hgR⟩ := ROWS.out.cell b (by rw [HSL.out]; exact hlt4)
                  obtain ⟨m, hm⟩ : ∃ m, T.getD b [] = m := ⟨_, rfl⟩
                  rw [hm] at hcr hbu
                  obtain ⟨Ab, cb, rfl, _, _, hrd⟩ := hbu.rd
                  obtain ⟨ml, hml⟩ : ∃ x, m.length = x := ⟨_, rfl⟩
                  rw [hml] at hcu
                  have CB : Hid (∀ W, Below wr.heap.size wr W → W.cell? ⟨gS, b, none⟩ = some (.slice Ab ml cb) ∧ (convert 23 9 (.slice Ab ml cb)).run Try.prog W = .ok (.string (strOf m)) W ∧ W.cell? ⟨gR, b, none⟩ = some (.string (strOf m))) := hidv_ fun W hW => by
                    have h5 := HBB.out.trans (hW.mono HBB.out.size)
                    exact ⟨(h5.cell (p := ⟨gS, b, none⟩) hgS).trans hcu, conv_strn (hrd.below h5) ml cb hml, (h5.cell (p := ⟨gR, b, none⟩) hgR).trans hcr⟩
                  have CF2 := hidv_ (fun W (hW : Below wr.heap.size wr W) => CF.out W (HBB.out.trans (hW.mono HBB.out.size)))
                  have SN := hidv_ (fun W => str_neq m W)
                  have u1 : (0 : Int) ≤ (b : Int) := by omega
                  have u2 : (b : Int) < (sl : Int) := by omega
                  clear hcu hbu hcr hrd hm hml hgS hgR
                  go_upto_region 43 with fail
                  refine region_quiet_in (C := fun W => Below wr.heap.size wr W) (by kernel_rfl) (by kernel_rfl) ((Below.refl _ _).drew) ?_
                  repeat (first | go_big_quiet_skip | (go_big_quiet_want; (first
                    | (refine BigFrame.quiet_move _ rfl ?_; go_simp)
                    | (refine BigFrame.quiet_assign _ rfl ?_; go_simp)
                    | (refine quiet_run (.bool false) ?_ ?_; (focus (intro W hW; have h := SN.out W; go_simp; done)); go_simp)
                    | (refine quiet_run (.pointer (some ⟨gS, b, none⟩)) ?_ ?_; (focus (intro W hW; go_simp; done)); go_simp)
                    | (refine quiet_run (.slice Ab ml cb) ?_ ?_; (focus (intro W hW; have h := (CB.out W hW).1; go_simp; done)); go_simp)
                    | (refine quiet_run (.string (strOf m)) ?_ ?_; (focus (intro W hW; have h := (CB.out W hW).2.1; go_simp; done)); go_simp)
                    | (refine quiet_run (.pointer (some ⟨rp, 0, none⟩)) ?_ ?_; (focus (intro W hW; go_simp; done)); go_simp)
                    | (refine quiet_run (.pointer (some ⟨rp, 1, none⟩)) ?_ ?_; (focus (intro W hW; go_simp; done)); go_simp)
                    | (refine quiet_run (.slice (some ⟨rs, 0, none⟩) n n) ?_ ?_; (focus (intro W hW; have h := CF2.out W hW; obtain ⟨h1, h2, h3, h4⟩ := h; go_simp; done)); go_simp)
                    | (refine quiet_run (.pointer (some ⟨rs, a, none⟩)) ?_ ?_; (focus (intro W hW; go_simp; done)); go_simp)
                    | (refine quiet_run (.slice (some ⟨gR, 0, none⟩) sl c2) ?_ ?_; (focus (intro W hW; have h := CF2.out W hW; obtain ⟨h1, h2, h3, h4⟩ := h; go_simp; done)); go_simp)
                    | (refine quiet_run (.pointer (some ⟨gR, b, none⟩)) ?_ ?_; (focus (intro W hW; go_simp; done)); go_simp)
                    | (refine quiet_run (.string (strOf m)) ?_ ?_; (focus (intro W hW; have h := (CB.out W hW).2.2; go_simp; done)); go_simp)); go_big_quiet_on))
                  refine wpQuiet_nil ?_
                  intro w8 hw8
                  have B8 := hidv_ (HBB.out.trans (Below.mono hw8 HBB.out.size))
                  clear hw8 CB CF2 SN
                  go_wp2
                  go_roundw
                  case rel => exact ⟨b + 1, by omega, by go_num, B8⟩
                  case measure => simp [intOf]; omega
                · have hf1 : decide ((b : Int) < (sl : Int)) = false := decide_eq_false (by omega)
                  have hf2 : decide (b < sl) = false := decide_eq_false hlt4
                  have HE8 := hidv_ (HE5.out.below HBB.out)
                  go_wp2
                  go_roundw
                  case rel => exact ⟨a + 1, by have := HLT3.out; omega, by go_num, HE8⟩
                  case measure => have := HLT3.out; simp [intOf]; omega
            · have he1 : decide ((a : Int) < (n : Int)) = false := decide_eq_false (by omega)
              have he2 : decide (a < n) = false := decide_eq_false hlt3
              have l1 : Calls Try.prog 12 #[.pointer (some ⟨p, 0, none⟩), .int .i64 (-1)] wr fun e w' => e = .returned (.int .i64 0) ∧ wr = w' := by
                obtain ⟨F4, G4, hf⟩ := HE.out
                exact len_no _ (inbox_no hf.net.net _ (.inl (by omega)))
              have l2 : Calls Try.prog 12 #[.pointer (some ⟨p, 0, none⟩), .int .i64 (n : Int)] wr fun e w' => e = .returned (.int .i64 0) ∧ wr = w' := by
                obtain ⟨F4, G4, hf⟩ := HE.out
                exact len_no _ (inbox_no hf.net.net _ (.inr (Int.le_refl _)))
              go_wp2_with (first
                | (go_at_call 12; ((with_reducible refine l1.mono ?_); clear l1; rintro e wz ⟨rfl, rfl⟩))
                | (go_at_call 12; ((with_reducible refine l2.mono ?_); clear l2; rintro e wz ⟨rfl, rfl⟩)))
              go_ret
              exact ⟨rfl, HE.out.un⟩
        · have hd1 : decide ((j : Int) < (n0 : Int)) = false := decide_eq_false (by omega)
          have hd3 : decide (j < n0) = false := decide_eq_false (by omega)
          have HJ60 := hidv_ (show j ≤ 60 by omega)
          go_upto_region 35 with fail
          go_loopw [17] (fun i wr => ∃ (a : Nat), a ≤ n ∧ i = .int .i64 a ∧ Hid (TwN w wr (fun _ => False) p q n L rp rq rs Z)) (fun i _ => n - (intOf i).toNat)
          case atStart => exact ⟨0, Nat.zero_le _, rfl, HI⟩
          case round =>
            obtain ⟨a, ha, rfl, HE⟩ := hrel
            by_cases hlt3 : a < n
            · have he1 : decide ((a : Int) < (n : Int)) = true := decide_eq_true (by omega)
              have he2 : decide (a < n) = true := decide_eq_true hlt3
              have hrl := HR.out.rel a hlt3
              have hcp := HR.out.cap a hlt3
              have hsh := HR.out.short (a * 2 + 1)
              obtain ⟨T, hT⟩ : ∃ T, L.getD (a * 2 + 1) [] = T := ⟨_, rfl⟩
              obtain ⟨wl, hwl⟩ : ∃ x, (L.getD (a * 2) []).length = x := ⟨_, rfl⟩
              rw [hT] at hsh hcp hrl
              obtain ⟨sl, hsl⟩ : ∃ x, T.length = x := ⟨_, rfl⟩
              have cS : Calls Try.prog 13 #[.pointer (some ⟨p, 0, none⟩), .int .i64 (a : Int)] wr fun e w' => ∃ A c G, e = .returned (.slice A sl c) ∧ RowF w' G (.slice A sl c) T ∧ Below wr.heap.size wr w' := by
                obtain ⟨F4, G4, hf⟩ := HE.out
                have c := seen_yes hf.net.net a hlt3 sl (by rw [hT]; exact hsl) (by have := HJ60.out; omega) (by rw [hT]; exact fun m hm => Nat.le_trans (hsh m hm) (by omega))
                rw [hT] at c
                exact c.mono fun e w' ⟨A, c, G, h1, h2, h3, h4⟩ => ⟨A, c, G, h1, h2, h4⟩
              have HRL3 := hidv_ hrl
              have HSL := hidv_ hsl
              have HWL := hidv_ hwl
              have HS60 := hidv_ (show sl ≤ 60 by have := HJ60.out; omega)
              clear hrl hcp hsh hT hsl hwl
              go_upto_region 38 with (go_at_call 13; ((with_reducible refine cS.mono ?_); clear cS; rintro e w5 ⟨AS, cSS, GS, rfl, hrow, hb⟩; have ROW := hidv_ hrow; have HE5 := hidv_ (HE.out.below hb); clear hrow hb))
              have hx5 : ∃ A1 c1 A2 c2, w5.cell? ⟨rp, 0, none⟩ = some (.slice (some ⟨rq, 0, none⟩) n n) ∧ w5.cell? ⟨rp, 1, none⟩ = some (.slice (some ⟨rs, 0, none⟩) n n) ∧ w5.cell? ⟨rq, a, none⟩ = some (.slice A1 wl c1) ∧ w5.cell? ⟨rs, a, none⟩ = some (.slice A2 sl c2) ∧ (∃ G, RowS w5 G (.slice A2 sl c2) T) ∧ rp < w5.heap.size ∧ rq < w5.heap.size ∧ rs < w5.heap.size := by
                obtain ⟨F5, G5, hf⟩ := HE5.out
                obtain ⟨A1, c1, x1, _⟩ := hf.ref.lo a hlt3
                obtain ⟨A2, c2, x2, x3, _⟩ := hf.ref.hi a hlt3
                rw [HRL3.out.1, HWL.out] at x1
                rw [HRL3.out.2, HSL.out] at x2 x3
                exact ⟨A1, c1, A2, c2, hf.ref.bp.cell 0, hf.ref.bp.cell 1, x1, x2, ⟨_, x3⟩, hf.ref.bp.lt, hf.ref.hF rq hf.ref.hq, hf.ref.hF rs hf.ref.hs⟩
              obtain ⟨A1, c1, A2, c2, y1, y2, y3, y4, ⟨GR, y5⟩, l1, l2, l3⟩ := hx5
              have CF : Hid (∀ W, Below w5.heap.size w5 W → W.cell? ⟨rp, 0, none⟩ = some (.slice (some ⟨rq, 0, none⟩) n n) ∧ W.cell? ⟨rp, 1, none⟩ = some (.slice (some ⟨rs, 0, none⟩) n n) ∧ W.cell? ⟨rq, a, none⟩ = some (.slice A1 wl c1) ∧ W.cell? ⟨rs, a, none⟩ = some (.slice A2 sl c2)) := hidv_ fun W hW => ⟨(hW.cell (p := ⟨rp, 0, none⟩) l1).trans y1, (hW.cell (p := ⟨rp, 1, none⟩) l1).trans y2, (hW.cell (p := ⟨rq, a, none⟩) l2).trans y3, (hW.cell (p := ⟨rs, a, none⟩) l3).trans y4⟩
              have ROWS := hidv_ y5
              have LN : Hid (∀ W, Below w5.heap.size w5 W → Calls Try.prog 12 #[.pointer (some ⟨p, 0, none⟩), .int .i64 (a : Int)] W fun e w' => e = .returned (.int .i64 (wl : Int)) ∧ Below w5.heap.size w5 w') := hidv_ fun W hW => by
                obtain ⟨F5, G5, hf⟩ := HE5.out.below hW
                exact (len_yes hf.net.net a hlt3 wl HWL.out).mono fun e w' h => ⟨h.1, by rw [← h.2]; exact hW⟩
              have HLT3 := hidv_ hlt3
              have t1 : (0 : Int) ≤ (a : Int) := by omega
              have t2 : (a : Int) < (n : Int) := by omega
              clear y1 y2 y3 y4 y5 l1 l2 l3
              refine region_quiet_in (C := fun W => Below w5.heap.size w5 W) (by kernel_rfl) (by kernel_rfl) ((Below.refl _ _).drew) ?_
              repeat (first | go_big_quiet_skip | (go_big_quiet_want; (first
                | (refine BigFrame.quiet_move _ rfl ?_; go_simp)
                | (refine BigFrame.quiet_assign _ rfl ?_; go_simp)
                | (refine quiet_call (.int .i64 (wl : Int)) 12 #[.pointer (some ⟨p, 0, none⟩), .int .i64 (a : Int)] ?_ LN.out ?_; (focus (intro W; go_simp; done)); go_simp)
                | (refine quiet_run (.bool false) ?_ ?_; (focus (intro W hW; go_simp; done)); go_simp)
                | (refine quiet_run (.pointer (some ⟨rp, 0, none⟩)) ?_ ?_; (focus (intro W hW; go_simp; done)); go_simp)
                | (refine quiet_run (.pointer (some ⟨rp, 1, none⟩)) ?_ ?_; (focus (intro W hW; go_simp; done)); go_simp)
                | (refine quiet_run (.slice (some ⟨rq, 0, none⟩) n n) ?_ ?_; (focus (intro W hW; have h := CF.out W hW; obtain ⟨h1, h2, h3, h4⟩ := h; go_simp; done)); go_simp)
                | (refine quiet_run (.slice (some ⟨rs, 0, none⟩) n n) ?_ ?_; (focus (intro W hW; have h := CF.out W hW; obtain ⟨h1, h2, h3, h4⟩ := h; go_simp; done)); go_simp)
                | (refine quiet_run (.pointer (some ⟨rq, a, none⟩)) ?_ ?_; (focus (intro W hW; go_simp; done)); go_simp)
                | (refine quiet_run (.pointer (some ⟨rs, a, none⟩)) ?_ ?_; (focus (intro W hW; go_simp; done)); go_simp)
                | (refine quiet_run (.slice A1 wl c1) ?_ ?_; (focus (intro W hW; have h := CF.out W hW; obtain ⟨h1, h2, h3, h4⟩ := h; go_simp; done)); go_simp)
                | (refine quiet_run (.slice A2 sl c2) ?_ ?_; (focus (intro W hW; have h := CF.out W hW; obtain ⟨h1, h2, h3, h4⟩ := h; go_simp; done)); go_simp)
                | (refine quiet_run (.int .i64 (wl : Int)) ?_ ?_; (focus (intro W hW; go_simp; done)); go_simp)
                | (refine quiet_run (.int .i64 (sl : Int)) ?_ ?_; (focus (intro W hW; go_simp; done)); go_simp)); go_big_quiet_on))
              refine wpQuiet_nil ?_
              intro w7 hw7
              have B7 := hidv_ hw7
              clear hw7 LN
              go_upto_region 41 with fail
              go_loopw [19] (fun i wr => ∃ (b : Nat), b ≤ sl ∧ i = .int .i64 b ∧ Hid (Below w5.heap.size w5 wr)) (fun i _ => sl - (intOf i).toNat)
              case atStart => exact ⟨0, Nat.zero_le _, rfl, B7⟩
              case round =>
                obtain ⟨b, hb, rfl, HBB⟩ := hrel
                by_cases hlt4 : b < sl
                · have hs60 := HS60.out
                  have hf1 : decide ((b : Int) < (sl : Int)) = true := decide_eq_true (by omega)
                  have hf2 : decide (b < sl) = true := decide_eq_true hlt4
                  obtain ⟨gS, uS, rfl, hcu, hbu, hgS⟩ := ROW.out.cell b (by rw [HSL.out]; exact hlt4)
                  obtain ⟨gR, rfl, hcr, hgR⟩ := ROWS.out.cell b (by rw [HSL.out]; exact hlt4)
                  obtain ⟨m, hm⟩ : ∃ m, T.getD b [] = m := ⟨_, rfl⟩
                  rw [hm] at hcr hbu
                  obtain ⟨Ab, cb, rfl, _, _, hrd⟩ := hbu.rd
                  obtain ⟨ml, hml⟩ : ∃ x, m.length = x := ⟨_, rfl⟩
                  rw [hml] at hcu
                  have CB : Hid (∀ W, Below wr.heap.size wr W → W.cell? ⟨gS, b, none⟩ = some (.slice Ab ml cb) ∧ (convert 23 9 (.slice Ab ml cb)).run Try.prog W = .ok (.string (strOf m)) W ∧ W.cell? ⟨gR, b, none⟩ = some (.string (strOf m))) := hidv_ fun W hW => by
                    have h5 := HBB.out.trans (hW.mono HBB.out.size)
                    exact ⟨(h5.cell (p := ⟨gS, b, none⟩) hgS).trans hcu, conv_strn (hrd.below h5) ml cb hml, (h5.cell (p := ⟨gR, b, none⟩) hgR).trans hcr⟩
                  have CF2 := hidv_ (fun W (hW : Below wr.heap.size wr W) => CF.out W (HBB.out.trans (hW.mono HBB.out.size)))
                  have SN := hidv_ (fun W => str_neq m W)
                  have u1 : (0 : Int) ≤ (b : Int) := by omega
                  have u2 : (b : Int) < (sl : Int) := by omega
                  clear hcu hbu hcr hrd hm hml hgS hgR
                  go_upto_region 43 with fail
                  refine region_quiet_in (C := fun W => Below wr.heap.size wr W) (by kernel_rfl) (by kernel_rfl) ((Below.refl _ _).drew) ?_
                  repeat (first | go_big_quiet_skip | (go_big_quiet_want; (first
                    | (refine BigFrame.quiet_move _ rfl ?_; go_simp)
                    | (refine BigFrame.quiet_assign _ rfl ?_; go_simp)
                    | (refine quiet_run (.bool false) ?_ ?_; (focus (intro W hW; have h := SN.out W; go_simp; done)); go_simp)
                    | (refine quiet_run (.pointer (some ⟨gS, b, none⟩)) ?_ ?_; (focus (intro W hW; go_simp; done)); go_simp)
                    | (refine quiet_run (.slice Ab ml cb) ?_ ?_; (focus (intro W hW; have h := (CB.out W hW).1; go_simp; done)); go_simp)
                    | (refine quiet_run (.string (strOf m)) ?_ ?_; (focus (intro W hW; have h := (CB.out W hW).2.1; go_simp; done)); go_simp)
                    | (refine quiet_run (.pointer (some ⟨rp, 0, none⟩)) ?_ ?_; (focus (intro W hW; go_simp; done)); go_simp)
                    | (refine quiet_run (.pointer (some ⟨rp, 1, none⟩)) ?_ ?_; (focus (intro W hW; go_simp; done)); go_simp)
                    | (refine quiet_run (.slice (some ⟨rs, 0, none⟩) n n) ?_ ?_; (focus (intro W hW; have h := CF2.out W hW; obtain ⟨h1, h2, h3, h4⟩ := h; go_simp; done)); go_simp)
                    | (refine quiet_run (.pointer (some ⟨rs, a, none⟩)) ?_ ?_; (focus (intro W hW; go_simp; done)); go_simp)
                    | (refine quiet_run (.slice (some ⟨gR, 0, none⟩) sl c2) ?_ ?_; (focus (intro W hW; have h := CF2.out W hW; obtain ⟨h1, h2, h3, h4⟩ := h; go_simp; done)); go_simp)
                    | (refine quiet_run (.pointer (some ⟨gR, b, none⟩)) ?_ ?_; (focus (intro W hW; go_simp; done)); go_simp)
                    | (refine quiet_run (.string (strOf m)) ?_ ?_; (focus (intro W hW; have h := (CB.out W hW).2.2; go_simp; done)); go_simp)); go_big_quiet_on))
                  refine wpQuiet_nil ?_
                  intro w8 hw8
                  have B8 := hidv_ (HBB.out.trans (Below.mono hw8 HBB.out.size))
                  clear hw8 CB CF2 SN
                  go_wp2
                  go_roundw
                  case rel => exact ⟨b + 1, by omega, by go_num, B8⟩
                  case measure => simp [intOf]; omega
                · have hf1 : decide ((b : Int) < (sl : Int)) = false := decide_eq_false (by omega)
                  have hf2 : decide (b < sl) = false := decide_eq_false hlt4
                  have HE8 := hidv_ (HE5.out.below HBB.out)
                  go_wp2
                  go_roundw
                  case rel => exact ⟨a + 1, by have := HLT3.out; omega, by go_num, HE8⟩
                  case measure => have := HLT3.out; simp [intOf]; omega
            · have he1 : decide ((a : Int) < (n : Int)) = false := decide_eq_false (by omega)
              have he2 : decide (a < n) = false := decide_eq_false hlt3
              have l1 : Calls Try.prog 12 #[.pointer (some ⟨p, 0, none⟩), .int .i64 (-1)] wr fun e w' => e = .returned (.int .i64 0) ∧ wr = w' := by
                obtain ⟨F4, G4, hf⟩ := HE.out
                exact len_no _ (inbox_no hf.net.net _ (.inl (by omega)))
              have l2 : Calls Try.prog 12 #[.pointer (some ⟨p, 0, none⟩), .int .i64 (n : Int)] wr fun e w' => e = .returned (.int .i64 0) ∧ wr = w' := by
                obtain ⟨F4, G4, hf⟩ := HE.out
                exact len_no _ (inbox_no hf.net.net _ (.inr (Int.le_refl _)))
              go_wp2_with (first
                | (go_at_call 12; ((with_reducible refine l1.mono ?_); clear l1; rintro e wz ⟨rfl, rfl⟩))
                | (go_at_call 12; ((with_reducible refine l2.mono ?_); clear l2; rintro e wz ⟨rfl, rfl⟩)))
              go_ret
              exact ⟨rfl, HE.out.un⟩

set_option maxRecDepth 100000 in
theorem lifted (os : Os) (started : os.Started) (H : Type) (enc : TypeId × Value → H) :
    ReturnsInHanded {} Try.checked os 3 .any (Rows.netActsSpec.pre6 enc Try.prog Try.f3 Rows.netActsRow.domain false) (Rows.netActsSpec.post enc Try.prog Try.f3 false true false false) := by
  refine returnsInHanded_of_change (C := Try.checked) own_ started (by kernel_rfl) Try.func3
    (ChangeSpec.witness6 (enc := enc) (C := Try.checked) false ⟨#[], #[.int .i64 0, .slice none 0 0], []⟩ 8 (by kernel_rfl) (by kernel_rfl) (by kernel_rfl) (by kernel_rfl)) ?_
  intro W base args ds gs before hval0 hW hcnd _
  have hval : ∀ (j : Nat) t v, Try.f3.params[j]? = some t → args[j]? = some v → Value.okWide Try.prog W .any base t v := hval0
  have hW' := hW
  obtain ⟨p, q, hA0, hV, rfl, hfz, hnd⟩ := hW
  have hA : DataW.TrodAll enc Try.prog W 0 (fun _ => true) true Try.f3.params.toList args.toList ds p := hA0
  rw [Try.params3] at hA hval
  obtain ⟨v0, vs0, d0, ds0, p0, q0, hargs, rfl, rfl, h0, r0⟩ := trodAll_cons hA
  obtain ⟨v1, vs1, d1, ds1, p1, q1, rfl, rfl, rfl, h1, r1⟩ := trodAll_cons r0
  obtain ⟨rfl, rfl, rfl⟩ := trodAll_nil r1
  obtain rfl : args = #[v0, v1] := by cases args; simp_all
  obtain ⟨rfl, rfl⟩ := trodVars_none hV
  obtain ⟨a0, rfl, rfl, rfl, w0⟩ := open_int Try.underlying3 (hval 0 3 v0 rfl rfl) h0
  obtain ⟨A1, l1, c1, rfl, hp1, hl1, hm1⟩ := open_acts Try.underlying22 Try.underlying41 ⟨rfl, rfl⟩ ⟨rfl, rfl⟩ ⟨rfl, rfl⟩ ⟨rfl, rfl⟩ Try.underlying3 (by kernel_rfl) Try.underlying23 (by kernel_rfl) Try.underlying5 (by kernel_rfl) (by kernel_rfl) (hval 1 22 v1 rfl rfl) h1
  refine (walk W a0 A1 l1.length c1 l1 rfl hp1 (by unfold maxLen at hm1; omega)).mono fun e W' ⟨he, hg⟩ => ⟨_, he, ?_⟩
  exact law_post laidOut_ (of_decide_eq_true (by kernel_rfl)) rfl rfl Try.underlying4 rfl hW' hg

theorem over : Rows.netActsRow.holds Try.pinned (OpenSpec.ofChange Rows.netActsSpec) :=
  OpenClaim.holds_of_wide 3 Try.f3 rfl rfl rfl rfl rfl rfl rfl ⟨rfl, rfl, rfl, rfl, rfl⟩ rfl rfl rfl rfl rfl (by kernel_rfl) Try.func3 (by kernel_rfl)
    (of_decide_eq_true (by kernel_rfl)) (by unfold Func.isWrapper; first | (rw [if_pos (by decide +kernel)]; kernel_rfl) | (rw [if_neg (by decide +kernel)]; exact ⟨rfl, rfl⟩))
    (fun os started H enc _ => lifted os started H enc)

theorem proved : Rows.NetActsSaid := over
#print axioms proved
end Go.Proofs.Ytdkemjipbkanoaa.netActs
