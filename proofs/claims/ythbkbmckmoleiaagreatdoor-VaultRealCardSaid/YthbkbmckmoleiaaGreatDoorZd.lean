/-
  The document's vault: an opening.
-/
import Derived.Test.YthbkbmckmoleiaaGreatDoorZc
namespace Go.Proofs.YthbkbmckmoleiaaGreatDoor
set_option maxRecDepth 100000
open Go.ChangeShapes Go.WideShapes Go.ChangeAt Go.RowKit
set_option linter.unusedVariables false
set_option linter.unusedSimpArgs false

theorem hidzd_ {p : Prop} (h : p) : Hid p := h
theorem zSLr (W : World) : (zeroValue 105).run Tryz.prog W = .ok (.agg #[.int .i64 0, .int .i64 0, .int .i64 0, .string ⟨#[]⟩, .string ⟨#[]⟩, .string ⟨#[]⟩]) W := by kernel_rfl
theorem iSLr (t : SealV) : (Tryz.prog.info? 105).map (·.size) = some (slR t).size := by kernel_rfl
theorem slR_all (t : SealV) : (slR t).all (·.oneCell') = true := by simp [slR, Value.oneCell']
theorem slR_cells {w : World} {B : Nat} {t : SealV} (h : Bk w B 105 (slR t)) : w.cell? ⟨B, 0, none⟩ = some (.int .i64 (t.e : Int)) ∧ w.cell? ⟨B, 1, none⟩ = some (.int .i64 (t.c : Int)) ∧ w.cell? ⟨B, 2, none⟩ = some (.int .i64 (t.n : Int)) ∧ w.cell? ⟨B, 3, none⟩ = some (.string (strOf t.x)) ∧ w.cell? ⟨B, 4, none⟩ = some (.string (strOf t.b)) ∧ w.cell? ⟨B, 5, none⟩ = some (.string (strOf t.s)) := ⟨h.cell 0, h.cell 1, h.cell 2, h.cell 3, h.cell 4, h.cell 5⟩
theorem find_take {L : List SealV} {p : SealV → Bool} {j : Nat} (hj : j < L.length) (hno : ∀ k, (hk : k < L.length) → k < j → p L[k] = false) (hyes : p L[j] = true) : L.find? p = some L[j] := by
  rw [List.find?_eq_some_iff_getElem]
  exact ⟨hyes, j, hj, rfl, fun k hk => by simpa using hno k (by omega) hk⟩
section
variable {w : World} {g : Nat} {id : Bool} {K : List UInt8} {N : List (List UInt8)} {L : List SealV} {G : List Nat}
set_option maxRecDepth 100000 in
set_option maxHeartbeats 8000000 in
theorem ropen_real (h : RS false g K N L w G) (hK : K.length = 32) (e c n : Int) (x s : List UInt8) (hx : x.length ≤ 100000) (hs : s.length ≤ 100000) (hok : slOk e c n) (hsh : ¬ s.length < 16) (D : List UInt8) (ok : Bool)
    (co : ∀ W, Calls Tryz.prog 84 #[.string (strOf (sealK K e.toNat)), .string (strOf (nonceB c.toNat n.toNat)), .string (strOf x), .string (strOf s)] W fun r w' => r = .returned (.tuple #[.string (strOf D), .bool ok]) ∧ Below W.heap.size W w') :
    Calls Tryz.prog 44 #[.pointer (some ⟨g, 0, none⟩), .int .i64 e, .int .i64 c, .int .i64 n, .string (strOf x), .string (strOf s)] w fun r w' => r = .returned (.tuple #[.string (strOf (if ok then D else [])), .int .i64 (if ok then 0 else 6)]) ∧ Below w.heap.size w w' := by
  have cr := rright_any w e c n
  have e0 : (⟨#[]⟩ : ByteArray) = strOf [] := rfl
  rw [decide_eq_true hok] at cr
  obtain ⟨vn, vl, h⟩ := h
  have c0 := h.blk.cell 0
  have c1 := h.blk.cell 1
  obtain ⟨⟨he1, he2⟩, hc1, hc2, hn1, hn2⟩ := hok
  obtain ⟨e, rfl⟩ : ∃ k : Nat, e = (k : Int) := ⟨e.toNat, by omega⟩
  obtain ⟨c, rfl⟩ : ∃ k : Nat, c = (k : Int) := ⟨c.toNat, by omega⟩
  obtain ⟨n, rfl⟩ : ∃ k : Nat, n = (k : Int) := ⟨n.toNat, by omega⟩
  simp only [Int.toNat_natCast] at co
  have ck := fun W => refSealK_any W K hK e (by omega)
  have cnn := fun W => refNonce_any W c n (by omega) (by omega)
  have hss : (strOf s).size = s.length := strOf_size s
  have d1 : decide ((s.length : Int) < 16) = false := decide_eq_false (by omega)
  have d2 : decide (s.length < 16) = false := decide_eq_false (by omega)
  generalize sealK K e = Ks at *
  generalize nonceB c n = No at *
  clear h hK hx hs hsh he1 he2 hc1 hc2 hn1 hn2
  cases ok
  all_goals
    go_enter Tryz.func44, Tryz.ntmps44
    go_wp2_with (first
      | (go_at_call 80; ((with_reducible refine cr.mono ?_); clear cr; rintro r w' ⟨rfl, rfl⟩))
      | (go_at_call 82; ((with_reducible refine (ck _).mono ?_); clear ck; rintro r w1 ⟨rfl, hb⟩; have B1 := hidzd_ hb; clear hb))
      | (go_at_call 83; ((with_reducible refine (cnn _).mono ?_); clear cnn; rintro r w2 ⟨rfl, hb⟩; have B2 := hidzd_ (B1.out.trans (hb.mono B1.out.size)); clear hb))
      | (go_at_call 84; ((with_reducible refine (co _).mono ?_); clear co; rintro r w3 ⟨rfl, hb⟩; have B3 := hidzd_ (B2.out.trans (hb.mono B2.out.size)); clear hb)))
    go_ret2
    exact ⟨rfl, B3.out⟩
set_option maxRecDepth 100000 in
set_option maxHeartbeats 8000000 in
theorem ropen_ideal (h : RS true g K N L w G) (e c n : Nat) (x s : List UInt8) (hs : s.length ≤ 100000) (hL : L.length ≤ 100000) (hok : slOk (e : Int) (c : Int) (n : Int)) (hsh : ¬ s.length < 16) (D : List UInt8) (z : Int) (hy : ∀ t, L.find? (hitS e c n x s) = some t → D = t.b ∧ z = 0) (hn : L.find? (hitS e c n x s) = none → D = [] ∧ z = 6) :
    Calls Tryz.prog 44 #[.pointer (some ⟨g, 0, none⟩), .int .i64 (e : Int), .int .i64 (c : Int), .int .i64 (n : Int), .string (strOf x), .string (strOf s)] w fun r w' => r = .returned (.tuple #[.string (strOf D), .int .i64 z]) ∧ Below w.heap.size w w' := by
  have HY := hidzd_ hy
  have HNO2 := hidzd_ hn
  clear hy hn
  have cr := rright_any w e c n
  have e0 : (⟨#[]⟩ : ByteArray) = strOf [] := rfl
  rw [decide_eq_true hok] at cr
  obtain ⟨vn, vl, h⟩ := h
  obtain ⟨A, cc, rfl⟩ := OwnSL.form h.sls
  have c0 := h.blk.cell 0
  have HR := hidzd_ h
  have LL := hidzd_ hL
  have hss : (strOf s).size = s.length := strOf_size s
  have d1 : decide ((s.length : Int) < 16) = false := decide_eq_false (by omega)
  have d2 : decide (s.length < 16) = false := decide_eq_false (by omega)
  have hzS := zSLr
  clear h hL hs hsh hok
  go_enter Tryz.func44, Tryz.ntmps44
  go_upto_region 10 with (go_at_call 80; ((with_reducible refine cr.mono ?_); clear cr; rintro r w' ⟨rfl, rfl⟩))
  clear c0 d1 d2
  go_upto_region 11 with fail
  go_loopw [16] (fun i wr => ∃ j : Nat, j ≤ L.length ∧ i = .int .i64 j ∧ Hid (Below w.heap.size w wr) ∧ Hid (∀ k, (hk : k < L.length) → k < j → hitS e c n x s L[k] = false)) (fun i _ => L.length - (intOf i).toNat)
  case atStart => exact ⟨0, Nat.zero_le _, rfl, hidzd_ (Below.refl _ _), hidzd_ (fun k hk h0 => by omega)⟩
  case round =>
    obtain ⟨j, hj, rfl, HB, HNO⟩ := hrel
    have hn100 : j ≤ 100000 := by have := LL.out; omega
    have c3 := (HR.out.below HB.out).blk.cell 3
    by_cases hlt : j < L.length
    · have D1 : decide ((j : Int) < (L.length : Int)) = true := decide_eq_true (by omega)
      have D2 : decide (j < L.length) = true := decide_eq_true hlt
      obtain ⟨gA, hA, hcell⟩ := OwnSL.cells (HR.out.below HB.out).sls j hlt
      subst hA
      have t0 : (0 : Int) ≤ (j : Int) := by omega
      have tn : (j : Int) < (L.length : Int) := by omega
      have HFT := hidzd_ (fun hyes : hitS e c n x s L[j] = true => find_take hlt HNO.out hyes)
      have HNX := hidzd_ (fun hno : hitS e c n x s L[j] = false => (fun (k : Nat) (hk : k < L.length) (hk1 : k < j + 1) => (show hitS e c n x s L[k] = false by
        rcases Nat.lt_or_ge k j with h1 | h1
        · exact HNO.out k hk h1
        · obtain rfl : k = j := by omega
          exact hno)))
      generalize L[j] = t at *
      have HCL : Hid (∀ i, i < (slR t).size → wr.cell? ⟨gA, j * 6 + i, none⟩ = (slR t)[i]?) := hidzd_ (fun i hi => hcell i hi)
      have SZ := hidzd_ (iSLr t)
      clear hcell
      go_upto_region 14 with (first
        | (refine wpList_load_sub rfl 105 (.tmp 63) rfl gA (j * 6) rfl (slR t) HCL.out _ Tryz.underlying105 rfl SZ.out ?_)
        | (refine wpList_put_row rfl 105 (.tmp 17) (.tmp 64) rfl wr.heap.size (slR t) rfl rfl 105 _ (Bk.new wr _ _) SZ.out rfl (slR_all t) ?_; intro w4 k4 g4 s4; have K4 := hidzd_ k4; have B4 := hidzd_ (((Below.refl wr.heap.size wr).alloc (Nat.le_refl _) (.cells #[.int .i64 0, .int .i64 0, .int .i64 0, .string ⟨#[]⟩, .string ⟨#[]⟩, .string ⟨#[]⟩] 105)).grown g4 (by simp) (fun k e => by injection e with e; omega)); clear k4 g4 s4))
      obtain ⟨k0, k1, k2, k3, k4, k5⟩ := slR_cells K4.out
      have HB4 := hidzd_ (HB.out.trans (B4.out.mono HB.out.size))
      clear c3 B4 HCL HB
      generalize wr.heap.size = B at *
      by_cases h1 : t.e = e
      · have i1 : ((t.e : Int) == (e : Int)) = true := beq_iff_eq.2 (by omega)
        by_cases h2 : t.c = c
        · have i2 : ((t.c : Int) == (c : Int)) = true := beq_iff_eq.2 (by omega)
          by_cases h3 : t.n = n
          · have i3 : ((t.n : Int) == (n : Int)) = true := beq_iff_eq.2 (by omega)
            by_cases h4 : t.x = x
            · have i4 := strOf_eq _ _ h4
              by_cases h5 : t.s = s
              · have i5 := strOf_eq _ _ h5
                have hf := HFT.out (hitS_iff.2 ⟨h1, h2, h3, h4, h5⟩)
                have HF := hidzd_ (HY.out _ hf)
                clear hf h1 h2 h3 h4 h5
                go_wp2
                go_ret2
                exact ⟨by rw [HF.out.1, HF.out.2]; rfl, HB4.out⟩
              · have i5 := strOf_ne _ _ h5
                have HNN := hidzd_ (HNX.out (by cases hh : hitS e c n x s t with | false => rfl | true => exact absurd (hitS_iff.1 hh).2.2.2.2 h5))
                clear h1 h2 h3 h4 h5
                go_wp2
                go_roundw
                case rel => exact ⟨j + 1, by omega, by go_num, HB4, HNN⟩
                case measure => simp [intOf]; omega
            · have i4 := strOf_ne _ _ h4
              have HNN := hidzd_ (HNX.out (by cases hh : hitS e c n x s t with | false => rfl | true => exact absurd (hitS_iff.1 hh).2.2.2.1 h4))
              clear h1 h2 h3 h4
              go_wp2
              go_roundw
              case rel => exact ⟨j + 1, by omega, by go_num, HB4, HNN⟩
              case measure => simp [intOf]; omega
          · have i3 : ((t.n : Int) == (n : Int)) = false := beq_eq_false_iff_ne.2 (by omega)
            have HNN := hidzd_ (HNX.out (by cases hh : hitS e c n x s t with | false => rfl | true => exact absurd (hitS_iff.1 hh).2.2.1 h3))
            clear h1 h2 h3
            go_wp2
            go_roundw
            case rel => exact ⟨j + 1, by omega, by go_num, HB4, HNN⟩
            case measure => simp [intOf]; omega
        · have i2 : ((t.c : Int) == (c : Int)) = false := beq_eq_false_iff_ne.2 (by omega)
          have HNN := hidzd_ (HNX.out (by cases hh : hitS e c n x s t with | false => rfl | true => exact absurd (hitS_iff.1 hh).2.1 h2))
          clear h1 h2
          go_wp2
          go_roundw
          case rel => exact ⟨j + 1, by omega, by go_num, HB4, HNN⟩
          case measure => simp [intOf]; omega
      · have i1 : ((t.e : Int) == (e : Int)) = false := beq_eq_false_iff_ne.2 (by omega)
        have HNN := hidzd_ (HNX.out (by cases hh : hitS e c n x s t with | false => rfl | true => exact absurd (hitS_iff.1 hh).1 h1))
        clear h1
        go_wp2
        go_roundw
        case rel => exact ⟨j + 1, by omega, by go_num, HB4, HNN⟩
        case measure => simp [intOf]; omega
    · obtain rfl : j = L.length := by omega
      have D1 : decide ((L.length : Int) < (L.length : Int)) = false := decide_eq_false (by omega)
      have D2 : decide (L.length < L.length) = false := decide_eq_false (by omega)
      have hf : L.find? (hitS e c n x s) = none := List.find?_eq_none.2 (fun t ht hh => by
        obtain ⟨k, hk, e2⟩ := List.getElem_of_mem ht
        have := HNO.out k hk hk
        rw [e2, hh] at this
        cases this)
      have HF := hidzd_ (HNO2.out hf)
      clear hf
      go_wp2
      go_ret2
      exact ⟨by rw [HF.out.1, HF.out.2]; rfl, HB.out⟩
theorem ropen_x (h : RS id g K N L w G) (hK : K.length = 32) (e c n : Int) (x s : List UInt8) (hx : x.length ≤ 100000) (hs : s.length ≤ 100000) (hL : L.length ≤ 100000) :
    Calls Tryz.prog 44 #[.pointer (some ⟨g, 0, none⟩), .int .i64 e, .int .i64 c, .int .i64 n, .string (strOf x), .string (strOf s)] w fun r w' => r = .returned (.tuple #[.string (strOf (oB id K L e c n x s)), .int .i64 (oE id K L e c n x s)]) ∧ Below w.heap.size w w' := by
  have e0 : (⟨#[]⟩ : ByteArray) = strOf [] := rfl
  have hss : (strOf s).size = s.length := strOf_size s
  have cr := rright_any w e c n
  by_cases hok : slOk e c n
  · by_cases hsh : s.length < 16
    · have r1 : oE id K L e c n x s = 2 := by unfold oE; rw [if_pos hok, if_pos hsh]
      have r2 : oB id K L e c n x s = [] := by unfold oB; rw [if_pos hok, if_pos hsh]
      rw [r1, r2]
      rw [decide_eq_true hok] at cr
      have d1 : decide ((s.length : Int) < 16) = true := decide_eq_true (by omega)
      have d2 : decide (s.length < 16) = true := decide_eq_true (by omega)
      clear h r1 r2 hok hx hs hL hK hsh
      go_enter Tryz.func44, Tryz.ntmps44
      go_wp2_with (go_at_call 80; ((with_reducible refine cr.mono ?_); clear cr; rintro r w' ⟨rfl, rfl⟩))
      go_ret2
      exact ⟨rfl, Below.refl _ _⟩
    · have e1 : oE id K L e c n x s = (if (oT id K L e.toNat c.toNat n.toNat x s).isSome then 0 else 6) := by unfold oE; rw [if_pos hok, if_neg hsh]
      have e2 : oB id K L e c n x s = (oT id K L e.toNat c.toNat n.toNat x s).getD [] := by unfold oB; rw [if_pos hok, if_neg hsh]
      rw [e1, e2]
      cases id
      · obtain ⟨m, hm⟩ : ∃ m, s.length = m + 16 := ⟨s.length - 16, by omega⟩
        have hm2 : s.length - 16 = m := by omega
        by_cases htag : tagB (sealK K e.toNat) (nonceB c.toNat n.toNat) x (s.take m) = s.drop m
        · have e3 : oT false K L e.toNat c.toNat n.toNat x s = some (streamB (sealK K e.toNat) (nonceB c.toNat n.toNat) 1 (s.take m)) := by unfold oT; rw [if_neg (by decide), hm2, if_pos htag]
          rw [e3]
          exact ropen_real h hK e c n x s hx hs hok hsh _ true (fun W => refAOpen_yes _ _ x s x.length m W (sealK_len _ _) (nonceB_len _ _) rfl hm (by omega) (by omega) htag)
        · have e3 : oT false K L e.toNat c.toNat n.toNat x s = none := by unfold oT; rw [if_neg (by decide), hm2, if_neg htag]
          rw [e3]
          exact ropen_real h hK e c n x s hx hs hok hsh _ false (fun W => refAOpen_no _ _ x s x.length m W (sealK_len _ _) (nonceB_len _ _) rfl hm (by omega) (by omega) htag)
      · have hok' := hok
        obtain ⟨⟨he1, he2⟩, hc1, hc2, hn1, hn2⟩ := hok'
        obtain ⟨e, rfl⟩ : ∃ k : Nat, e = (k : Int) := ⟨e.toNat, by omega⟩
        obtain ⟨c, rfl⟩ : ∃ k : Nat, c = (k : Int) := ⟨c.toNat, by omega⟩
        obtain ⟨n, rfl⟩ : ∃ k : Nat, n = (k : Int) := ⟨n.toNat, by omega⟩
        refine ropen_ideal h e c n x s hs hL hok hsh _ _ (fun t hf => ?_) (fun hf => ?_)
        · have e3 : oT true K L ((e : Int).toNat) ((c : Int).toNat) ((n : Int).toNat) x s = some t.b := by unfold oT; rw [if_pos rfl]; show (L.find? (hitS e c n x s)).map (·.b) = some t.b; rw [hf]; rfl
          rw [e3]
          exact ⟨rfl, rfl⟩
        · have e3 : oT true K L ((e : Int).toNat) ((c : Int).toNat) ((n : Int).toNat) x s = none := by unfold oT; rw [if_pos rfl]; show (L.find? (hitS e c n x s)).map (·.b) = none; rw [hf]; rfl
          rw [e3]
          exact ⟨rfl, rfl⟩
  · have r1 : oE id K L e c n x s = 1 := by unfold oE; rw [if_neg hok]
    have r2 : oB id K L e c n x s = [] := by unfold oB; rw [if_neg hok]
    rw [r1, r2]
    rw [decide_eq_false hok] at cr
    clear h r1 r2 hok hx hs hL hK
    go_enter Tryz.func44, Tryz.ntmps44
    go_wp2_with (go_at_call 80; ((with_reducible refine cr.mono ?_); clear cr; rintro r w' ⟨rfl, rfl⟩))
    go_ret2
    exact ⟨rfl, Below.refl _ _⟩
end
end Go.Proofs.YthbkbmckmoleiaaGreatDoor
