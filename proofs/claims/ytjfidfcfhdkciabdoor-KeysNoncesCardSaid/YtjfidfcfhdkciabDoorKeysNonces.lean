/-
  Proved: for all pairs of a client and a counter KeysNonces answers true: the nonce is told, or that there is none; unlike ones have unlike nonces. No condition.
-/
import Derived.Test.YtjfidfcfhdkciabDoorHd
import Derived.Test.YtjfidfcfhdkciabDoorQc
import Derived.Deep.DeepCutAuto
import Derived.BigQuiet
namespace Go.Proofs.YtjfidfcfhdkciabDoor.keysNonces
open Go.ChangeShapes Go.WideShapes Go.ChangeAt Go.RowKit
set_option linter.unusedVariables false
set_option linter.unusedSimpArgs false

theorem hid_ {p : Prop} (h : p) : Hid p := h
theorem neq12 (l m : List UInt8) (hl : l.length = 12) (hm : m.length = 12) (W : World) :
    (binOp .neq 23 (.agg (rowOf l)) (.agg (rowOf m))).run Tryd.prog W = .ok (.bool (!(l == m))) W := by
  have hs : ∀ W : World, (sizeOf 5).run Tryd.prog W = .ok 1 W := fun W => by
    obtain ⟨i, hi, hz, hsize, hby⟩ := info_parts info8
    simp [sizeOf, typeInfo, hi, hsize]
  rw [run_neq_struct]
  have h := run_equalIn_bytes W 9998 23 5 12 Tryd.underlying23 Tryd.underlying5 hs l m hl hm
  have h2 : (Op.equalIn 10000 23 (.agg (rowOf l)) (.agg (rowOf m))).run Tryd.prog W = .ok (l == m) W := h
  rw [h2]
  rfl
/-- What a nonce is asked of, and what it is. -/
structure Asked (a0 a1 : Int) (L : List UInt8) (e : Int) : Prop where
  len : L.length = 12
  code : e = if NonceOk a0 a1 then 0 else 1
  no : ¬ NonceOk a0 a1 → L = zbytes 12
  yes : NonceOk a0 a1 → L = nonceB a0.toNat a1.toNat
  calls : ∀ W, Calls Tryd.prog 14 #[.int .i64 a0, .int .i64 a1] W fun e' w' => e' = .returned (.tuple #[.agg (rowOf L), .int .i64 e]) ∧ Below W.heap.size W w'
theorem asked (a0 a1 : Int) : ∃ L e, Asked a0 a1 L e := by
  by_cases h : NonceOk a0 a1
  · refine ⟨nonceB a0.toNat a1.toNat, 0, nonceB_len _ _, (if_pos h).symm, fun h2 => absurd h h2, fun _ => rfl, fun W => ?_⟩
    obtain ⟨h1, h2, h3, h4⟩ := h
    have c := nonce_yes W a0.toNat a1.toNat (by omega) (by omega) (by omega) (by omega)
    rw [show ((a0.toNat : Nat) : Int) = a0 by omega, show ((a1.toNat : Nat) : Int) = a1 by omega] at c
    exact c
  · exact ⟨zbytes 12, 1, zbytes_len 12, (if_neg h).symm, fun _ => rfl, fun h2 => absurd h2 h, fun W => nonce_no W a0 a1 h⟩
theorem Bk.two {w : World} {g : Nat} {ty : TypeId} {a b : Value} (h : Bk w g ty #[a, b]) : w.cell? ⟨g, 0, none⟩ = some a ∧ w.cell? ⟨g, 1, none⟩ = some b := by
  have h0 := h.cell 0
  have h1 := h.cell 1
  simp only [List.getElem?_toArray, List.getElem?_cons_zero, List.getElem?_cons_succ] at h0 h1
  exact ⟨h0, h1⟩
/-- The two arguments, the two nonces, where they lie. -/
structure KnS (w : World) (a0 a1 b0 b1 : Int) (X Y : List UInt8) (x y : Nat) (W : World) : Prop where
  a : Bk W w.heap.size 22 #[.int .i64 a0, .int .i64 a1]
  b : Bk W (w.heap.size + 1) 22 #[.int .i64 b0, .int .i64 b1]
  x : Bk W x 23 (rowOf X)
  y : Bk W y 23 (rowOf Y)
  below : Below w.heap.size w W
theorem KnS.keep {w : World} {a0 a1 b0 b1 : Int} {X Y : List UInt8} {x y : Nat} {W W' : World} (h : KnS w a0 a1 b0 b1 X Y x y W) (hb : Below W.heap.size W W') : KnS w a0 a1 b0 b1 X Y x y W' :=
  ⟨h.a.below hb h.a.lt, h.b.below hb h.b.lt, h.x.below hb h.x.lt, h.y.below hb h.y.lt, h.below.trans (hb.mono h.below.size)⟩
theorem KnS.cells {w : World} {a0 a1 b0 b1 : Int} {X Y : List UInt8} {x y : Nat} {W : World} (h : KnS w a0 a1 b0 b1 X Y x y W) :
    W.cell? ⟨w.heap.size, 0, none⟩ = some (.int .i64 a0) ∧ W.cell? ⟨w.heap.size, 1, none⟩ = some (.int .i64 a1) ∧ W.cell? ⟨w.heap.size + 1, 0, none⟩ = some (.int .i64 b0) ∧ W.cell? ⟨w.heap.size + 1, 1, none⟩ = some (.int .i64 b1) :=
  ⟨(Bk.two h.a).1, (Bk.two h.a).2, (Bk.two h.b).1, (Bk.two h.b).2⟩

set_option maxRecDepth 100000 in
set_option maxHeartbeats 8000000 in
theorem walk (w : World) (a0 a1 b0 b1 : Int) :
    Calls Tryd.prog 3 #[.agg #[.int .i64 a0, .int .i64 a1], .agg #[.int .i64 b0, .int .i64 b1]] w fun e w' => e = .returned (.bool true) ∧ Below w.heap.size w w' := by
  obtain ⟨X, ex, hX⟩ := asked a0 a1
  obtain ⟨Y, ey, hY⟩ := asked b0 b1
  have HX := hid_ hX
  have HY := hid_ hY
  have cx := hX.calls
  have cy := hY.calls
  have hz := z12
  have IX := hid_ (i12 X hX.len)
  have IY := hid_ (i12 Y hY.len)
  have QX := hid_ (show (rowOf (zbytes 12)).size = (rowOf X).size by rw [rowOf_size, rowOf_size, hX.len, zbytes_len])
  have QY := hid_ (show (rowOf (zbytes 12)).size = (rowOf Y).size by rw [rowOf_size, rowOf_size, hY.len, zbytes_len])
  have KA := hid_ (Bk.new w 22 #[.int .i64 a0, .int .i64 a1])
  have KA0 := hid_ (KA.out.alloc (.cells #[.int .i64 b0, .int .i64 b1] 22))
  have KB0 : Hid (Bk ((w.alloc (.cells #[.int .i64 a0, .int .i64 a1] 22)).alloc (.cells #[.int .i64 b0, .int .i64 b1] 22)) (w.heap.size + 1) 22 #[.int .i64 b0, .int .i64 b1]) := hid_ (by simpa using Bk.new (w.alloc (.cells #[.int .i64 a0, .int .i64 a1] 22)) 22 #[.int .i64 b0, .int .i64 b1])
  have HB0 := hid_ (((Below.refl w.heap.size w).alloc (Nat.le_refl _) (.cells #[.int .i64 a0, .int .i64 a1] 22)).alloc (by simp) (.cells #[.int .i64 b0, .int .i64 b1] 22))
  obtain ⟨f0, f1⟩ := Bk.two KA0.out
  have hall := non_all
  clear hX hY KA
  go_enter Tryd.func3, Tryd.ntmps3
  go_upto_region 1 with fail
  generalize (w.alloc (.cells #[.int .i64 a0, .int .i64 a1] 22)).alloc (.cells #[.int .i64 b0, .int .i64 b1] 22) = w0 at *
  go_upto_region 3 with (first
    | (go_at_call 14; ((with_reducible refine (cx _).mono ?_); rintro e w1 ⟨rfl, hb⟩; have KA1 := hid_ (KA0.out.below hb KA0.out.lt); have KB1 := hid_ (KB0.out.below hb KB0.out.lt); have B1 := hid_ (HB0.out.trans (hb.mono HB0.out.size)); clear hb))
    | (refine wpList_put_row rfl 23 _ _ rfl w1.heap.size (rowOf X) rfl rfl 23 (rowOf (zbytes 12)) (Bk.new w1 _ _) IX.out QX.out (bytes_one _) ?_; intro w2 k2 g2 s2; have K2 := hid_ k2; have KA2 := hid_ ((KA1.out.alloc (.cells (rowOf (zbytes 12)) 23)).grown g2 (fun e => by injection e with e; have := KA1.out.lt; omega)); have KB2 := hid_ ((KB1.out.alloc (.cells (rowOf (zbytes 12)) 23)).grown g2 (fun e => by injection e with e; have := KB1.out.lt; omega)); have B2 := hid_ ((B1.out.alloc B1.out.size (.cells (rowOf (zbytes 12)) 23)).grown g2 (by have := B1.out.size; simp; omega) (fun k hk => by injection hk with hk; have := B1.out.size; omega)); clear k2 g2 s2; obtain ⟨f2, f3⟩ := Bk.two KB2.out)
    | (go_at_call 14; ((with_reducible refine (cy _).mono ?_); rintro e w3 ⟨rfl, hb⟩; have K3 := hid_ (K2.out.below hb K2.out.lt); have KA3 := hid_ (KA2.out.below hb KA2.out.lt); have KB3 := hid_ (KB2.out.below hb KB2.out.lt); have B3 := hid_ (B2.out.trans (hb.mono B2.out.size)); clear hb))
    | (refine wpList_put_row rfl 23 _ _ rfl w3.heap.size (rowOf Y) rfl rfl 23 (rowOf (zbytes 12)) (Bk.new w3 _ _) IY.out QY.out (bytes_one _) ?_; intro w4 k4 g4 s4; have S4 : Hid (KnS w a0 a1 b0 b1 X Y w1.heap.size w3.heap.size w4) := hid_ ⟨(KA3.out.alloc _).grown g4 (fun e => by injection e with e; have := KA3.out.lt; omega), (KB3.out.alloc _).grown g4 (fun e => by injection e with e; have := KB3.out.lt; omega), (K3.out.alloc _).grown g4 (fun e => by injection e with e; have := K3.out.lt; omega), k4, (B3.out.alloc B3.out.size _).grown g4 (by have := B3.out.size; simp; omega) (fun k hk => by injection hk with hk; have := B3.out.size; omega)⟩; clear k4 g4 s4))
  generalize w1.heap.size = x at *
  generalize w3.heap.size = y at *
  clear f0 f1 f2 f3 KA0 KB0 HB0 KA1 KB1 B1 K2 KA2 KB2 B2 K3 KA3 KB3 B3 cx cy
  go_cut [9, 10] (fun s9 s10 wx => s9 = .bool (clientB a0 && counterB a1) ∧ s10 = .bool (clientB b0 && counterB b1) ∧ Hid (KnS w a0 a1 b0 b1 X Y x y wx))
  case first =>
    have P1 : Hid (∀ W, KnS w a0 a1 b0 b1 X Y x y W → Calls Tryd.prog 15 #[.int .i64 a0] W fun e w' => e = .returned (.bool (clientB a0)) ∧ KnS w a0 a1 b0 b1 X Y x y w') := hid_ (fun W h => (refClient_any W a0).mono fun e w' hh => ⟨hh.1, hh.2 ▸ h⟩)
    have P2 : Hid (∀ W, KnS w a0 a1 b0 b1 X Y x y W → Calls Tryd.prog 16 #[.int .i64 a1] W fun e w' => e = .returned (.bool (counterB a1)) ∧ KnS w a0 a1 b0 b1 X Y x y w') := hid_ (fun W h => (refCounter_any W a1).mono fun e w' hh => ⟨hh.1, hh.2 ▸ h⟩)
    have P3 : Hid (∀ W, KnS w a0 a1 b0 b1 X Y x y W → Calls Tryd.prog 15 #[.int .i64 b0] W fun e w' => e = .returned (.bool (clientB b0)) ∧ KnS w a0 a1 b0 b1 X Y x y w') := hid_ (fun W h => (refClient_any W b0).mono fun e w' hh => ⟨hh.1, hh.2 ▸ h⟩)
    have P4 : Hid (∀ W, KnS w a0 a1 b0 b1 X Y x y W → Calls Tryd.prog 16 #[.int .i64 b1] W fun e w' => e = .returned (.bool (counterB b1)) ∧ KnS w a0 a1 b0 b1 X Y x y w') := hid_ (fun W h => (refCounter_any W b1).mono fun e w' hh => ⟨hh.1, hh.2 ▸ h⟩)
    clear HX HY
    generalize clientB a0 = pa at *
    generalize counterB a1 = ca at *
    generalize clientB b0 = pb at *
    generalize counterB b1 = cb at *
    cases pa <;> cases ca <;> cases pb <;> cases cb
    all_goals
      refine region_quiet_in (C := fun W => KnS w a0 a1 b0 b1 X Y x y W) (by kernel_rfl) (by kernel_rfl) (show KnS w a0 a1 b0 b1 X Y x y { w4 with drawn := w4.drawn + 1 } from ⟨S4.out.a.drew, S4.out.b.drew, S4.out.x.drew, S4.out.y.drew, S4.out.below.drew⟩) ?_
      repeat (first | go_big_quiet_skip | (go_big_quiet_want; (first
        | (refine BigFrame.quiet_move _ rfl ?_; go_simp)
        | (refine BigFrame.quiet_assign _ rfl ?_; go_simp)
        | (refine quiet_run (.pointer (some ⟨w.heap.size, 0, none⟩)) ?_ ?_; (focus (intro W hW; go_simp; done)); go_simp)
        | (refine quiet_run (.pointer (some ⟨w.heap.size, 1, none⟩)) ?_ ?_; (focus (intro W hW; go_simp; done)); go_simp)
        | (refine quiet_run (.pointer (some ⟨w.heap.size + 1, 0, none⟩)) ?_ ?_; (focus (intro W hW; go_simp; done)); go_simp)
        | (refine quiet_run (.pointer (some ⟨w.heap.size + 1, 1, none⟩)) ?_ ?_; (focus (intro W hW; go_simp; done)); go_simp)
        | (refine quiet_run (.int .i64 a0) ?_ ?_; (focus (intro W hW; have h := hW.cells.1; go_simp; done)); go_simp)
        | (refine quiet_run (.int .i64 a1) ?_ ?_; (focus (intro W hW; have h := hW.cells.2.1; go_simp; done)); go_simp)
        | (refine quiet_run (.int .i64 b0) ?_ ?_; (focus (intro W hW; have h := hW.cells.2.2.1; go_simp; done)); go_simp)
        | (refine quiet_run (.int .i64 b1) ?_ ?_; (focus (intro W hW; have h := hW.cells.2.2.2; go_simp; done)); go_simp)
        | (refine quiet_call _ 15 #[.int .i64 a0] ?_ P1.out ?_; (focus (intro W; go_simp; done)); go_simp)
        | (refine quiet_call _ 16 #[.int .i64 a1] ?_ P2.out ?_; (focus (intro W; go_simp; done)); go_simp)
        | (refine quiet_call _ 15 #[.int .i64 b0] ?_ P3.out ?_; (focus (intro W; go_simp; done)); go_simp)
        | (refine quiet_call _ 16 #[.int .i64 b1] ?_ P4.out ?_; (focus (intro W; go_simp; done)); go_simp)
        | (refine quiet_run (.bool true) ?_ ?_; (focus (intro W hW; go_simp; done)); go_simp)
        | (refine quiet_run (.bool false) ?_ ?_; (focus (intro W hW; go_simp; done)); go_simp)); go_big_quiet_on))
      refine wpQuiet_nil ?_
      intro w5 hw5
      have S5 : Hid (KnS w a0 a1 b0 b1 X Y x y w5) := hid_ hw5
      clear hw5
      go_wp2
      go_meet
      exact ⟨rfl, rfl, S5⟩
  case rest =>
    obtain ⟨rfl, rfl, S5⟩ := hcut
    rename_i K hK
    refine hK _ _ ?_
    clear S4 hK
    have pok := nonceOk_iff a0 a1
    have qok := nonceOk_iff b0 b1
    have cxe := HX.out.code
    have cye := HY.out.code
    have hh := hides_any
    have lX := HX.out.len
    have lY := HY.out.len
    by_cases hp : NonceOk a0 a1
    · have ep : (clientB a0 && counterB a1) = true := pok.2 hp
      rw [if_pos hp] at cxe
      rw [ep]
      clear pok ep
      by_cases hq : NonceOk b0 b1
      · have eq : (clientB b0 && counterB b1) = true := qok.2 hq
        rw [if_pos hq] at cye
        rw [eq]
        subst cxe cye
        clear qok eq
        go_upto_region 6 with (go_at_call 17; ((with_reducible refine (hh _).mono ?_); rintro e w6 ⟨rfl, hb⟩; have S6 := hid_ (S5.out.keep hb); clear hb))
        obtain ⟨na, rfl⟩ : ∃ n : Nat, a0 = (n : Int) := ⟨a0.toNat, by have := hp.1; omega⟩
        obtain ⟨nb, rfl⟩ : ∃ n : Nat, a1 = (n : Int) := ⟨a1.toNat, by have := hp.2.2.1; omega⟩
        obtain ⟨ma, rfl⟩ : ∃ n : Nat, b0 = (n : Int) := ⟨b0.toNat, by have := hq.1; omega⟩
        obtain ⟨mb, rfl⟩ : ∃ n : Nat, b1 = (n : Int) := ⟨b1.toNat, by have := hq.2.2.1; omega⟩
        have eX : X = nonceB na nb := HX.out.yes hp
        have eY : Y = nonceB ma mb := HY.out.yes hq
        obtain ⟨_, hp2, _, hp4⟩ := hp
        obtain ⟨_, hq2, _, hq4⟩ := hq
        have hN := fun W => refNonce_any W na nb (by omega) (by omega)
        rw [← eX] at hN
        have hxy : (X == Y) = ((na : Int) == (ma : Int) && (nb : Int) == (mb : Int)) := by
          rw [Bool.eq_iff_iff]
          simp only [beq_iff_eq, Bool.and_eq_true]
          constructor
          · intro h
            rw [eX, eY] at h
            have := nonceB_inj na nb ma mb (by omega) (by omega) (by omega) (by omega) h
            omega
          · rintro ⟨h1, h2⟩
            rw [eX, eY, show na = ma by omega, show nb = mb by omega]
        have P1 : Hid (∀ W, KnS w (na : Int) (nb : Int) (ma : Int) (mb : Int) X Y x y W → Calls Tryd.prog 18 #[.int .i64 (na : Int), .int .i64 (nb : Int)] W fun e w' => e = .returned (.string (strOf X)) ∧ KnS w (na : Int) (nb : Int) (ma : Int) (mb : Int) X Y x y w') := hid_ (fun W h => (hN W).mono fun e w' hh => ⟨hh.1, h.keep hh.2⟩)
        have V1 : Hid (∀ W, KnS w (na : Int) (nb : Int) (ma : Int) (mb : Int) X Y x y W → (convert 29 9 (.slice (some ⟨x, 0, none⟩) 12 12)).run Tryd.prog W = .ok (.string (strOf X)) W) := hid_ (fun W h => conv_strn (h.x.rd h.x.lt) 12 12 lX)
        have E1 := hid_ (eql12 X Y lX lY)
        have E2 := hid_ (eql_ints2 (na : Int) (nb : Int) (ma : Int) (mb : Int))
        rw [hxy] at E1
        have F1 : Hid (∀ W : World, (Op.equalIn 10000 23 (.agg (rowOf X)) (.agg (rowOf Y))).run Tryd.prog W = .ok ((na : Int) == (ma : Int) && (nb : Int) == (mb : Int)) W) := hid_ (fun W => by rw [← hxy]; exact run_equalIn_bytes W 9998 23 5 12 Tryd.underlying23 Tryd.underlying5 (fun W => by obtain ⟨i, hi, hz, hsize, hby⟩ := info_parts info8; simp [sizeOf, typeInfo, hi, hsize]) X Y lX lY)
        have F2 : Hid (∀ W : World, (Op.equalIn 10000 22 (.agg #[.int .i64 (na : Int), .int .i64 (nb : Int)]) (.agg #[.int .i64 (ma : Int), .int .i64 (mb : Int)])).run Tryd.prog W = .ok ((na : Int) == (ma : Int) && (nb : Int) == (mb : Int)) W) := hid_ (fun W => run_equalIn_ints2 W 9998 22 3 Tryd.underlying22 Tryd.underlying3 (fun W => by kernel_rfl) _ _ _ _)
        have IXX := IX.out
        have IYY := IY.out
        have I2 : (Tryd.prog.info? 22).map (·.size) = some 2 := by kernel_rfl
        have hqs := strOf_eq X X rfl
        clear hN hxy eX eY hp2 hp4 hq2 hq4 HX HY
        generalize ((na : Int) == (ma : Int) && (nb : Int) == (mb : Int)) = bb at *
        refine region_quiet_in (C := fun W => KnS w (na : Int) (nb : Int) (ma : Int) (mb : Int) X Y x y W) (by kernel_rfl) (by kernel_rfl) (show KnS w (na : Int) (nb : Int) (ma : Int) (mb : Int) X Y x y { w6 with drawn := w6.drawn + 1 } from ⟨S6.out.a.drew, S6.out.b.drew, S6.out.x.drew, S6.out.y.drew, S6.out.below.drew⟩) ?_
        repeat (first | go_big_quiet_skip | (go_big_quiet_want; (first
          | (refine BigFrame.quiet_move _ rfl ?_; go_simp)
          | (refine BigFrame.quiet_assign _ rfl ?_; go_simp)
          | (refine quiet_run (.pointer (some ⟨w.heap.size, 0, none⟩)) ?_ ?_; (focus (intro W hW; go_simp; done)); go_simp)
          | (refine quiet_run (.pointer (some ⟨w.heap.size, 1, none⟩)) ?_ ?_; (focus (intro W hW; go_simp; done)); go_simp)
          | (refine quiet_run (.int .i64 (na : Int)) ?_ ?_; (focus (intro W hW; have h := hW.cells.1; go_simp; done)); go_simp)
          | (refine quiet_run (.int .i64 (nb : Int)) ?_ ?_; (focus (intro W hW; have h := hW.cells.2.1; go_simp; done)); go_simp)
          | (refine quiet_run (.slice (some ⟨x, 0, none⟩) 12 12) ?_ ?_; (focus (intro W hW; go_simp; done)); go_simp)
          | (refine quiet_run (.string (strOf X)) ?_ ?_; (focus (intro W hW; have h := V1.out W hW; go_simp; done)); go_simp)
          | (refine quiet_call _ 18 #[.int .i64 (na : Int), .int .i64 (nb : Int)] ?_ P1.out ?_; (focus (intro W; go_simp; done)); go_simp)
          | (refine quiet_load_row 23 (.tmp 5) rfl x rfl 23 (rowOf X) _ Tryd.underlying23 rfl IXX (fun W hW => hW.x) ?_; go_simp)
          | (refine quiet_load_row 23 (.tmp 7) rfl y rfl 23 (rowOf Y) _ Tryd.underlying23 rfl IYY (fun W hW => hW.y) ?_; go_simp)
          | (refine quiet_load_row 22 (.tmp 2) rfl w.heap.size rfl 22 #[.int .i64 (na : Int), .int .i64 (nb : Int)] _ Tryd.underlying22 rfl I2 (fun W hW => hW.a) ?_; go_simp)
          | (refine quiet_load_row 22 (.tmp 3) rfl (w.heap.size + 1) rfl 22 #[.int .i64 (ma : Int), .int .i64 (mb : Int)] _ Tryd.underlying22 rfl I2 (fun W hW => hW.b) ?_; go_simp)
          | (refine quiet_run (.bool bb) ?_ ?_; (focus (intro W hW; have h := E1.out W; have h2 := F1.out W; go_simp; done)); go_simp)
          | (refine quiet_run (.bool bb) ?_ ?_; (focus (intro W hW; have h := E2.out W; have h2 := F2.out W; go_simp; done)); go_simp)
          | (refine quiet_run (.bool true) ?_ ?_; (focus (intro W hW; go_simp; done)); go_simp)
          | (refine quiet_run (.bool false) ?_ ?_; (focus (intro W hW; go_simp; done)); go_simp)); go_big_quiet_on))
        refine wpQuiet_nil ?_
        intro w7 hw7
        have B7 := hid_ hw7.below
        clear hw7
        go_wp2
        go_ret
        exact ⟨rfl, B7.out⟩
      · have eq : (clientB b0 && counterB b1) = false := by rw [← Bool.not_eq_true]; exact fun h => hq (qok.1 h)
        rw [if_neg hq] at cye
        rw [eq]
        subst cxe cye
        clear qok eq
        go_upto_region 6 with (go_at_call 17; ((with_reducible refine (hh _).mono ?_); rintro e w6 ⟨rfl, hb⟩; have S6 := hid_ (S5.out.keep hb); clear hb))
        refine region_quiet_in (C := fun W => Below w.heap.size w W) (by kernel_rfl) (by kernel_rfl) (show Below w.heap.size w { w6 with drawn := w6.drawn + 1 } from S6.out.below.drew) ?_
        repeat (first | go_big_quiet_skip | (go_big_quiet_want; (first
          | (refine BigFrame.quiet_move _ rfl ?_; go_simp)
          | (refine BigFrame.quiet_assign _ rfl ?_; go_simp)
          | (refine quiet_run (.bool true) ?_ ?_; (focus (intro W hW; go_simp; done)); go_simp)
          | (refine quiet_run (.bool false) ?_ ?_; (focus (intro W hW; go_simp; done)); go_simp)); go_big_quiet_on))
        refine wpQuiet_nil ?_
        intro w7 hw7
        have B7 := hid_ hw7
        clear hw7
        go_wp2
        go_ret
        exact ⟨rfl, B7.out⟩
    · have ep : (clientB a0 && counterB a1) = false := by rw [← Bool.not_eq_true]; exact fun h => hp (pok.1 h)
      rw [if_neg hp] at cxe
      rw [ep]
      have eX := HX.out.no hp
      have hne : ∀ W : World, (Op.equalIn 10000 23 (.agg (rowOf X)) (.agg (rowOf (zbytes 12)))).run Tryd.prog W = .ok true W := fun W => by
        have h := run_equalIn_bytes W 9998 23 5 12 Tryd.underlying23 Tryd.underlying5 (fun W => by obtain ⟨i, hi, hz, hsize, hby⟩ := info_parts info8; simp [sizeOf, typeInfo, hi, hsize]) X (zbytes 12) lX (zbytes_len 12)
        rw [show (X == zbytes 12) = true by rw [eX]; decide] at h
        exact h
      have IX12 := IX.out
      subst cxe
      clear pok ep eX
      by_cases hq : NonceOk b0 b1
      · have eq : (clientB b0 && counterB b1) = true := qok.2 hq
        rw [if_pos hq] at cye
        rw [eq]
        subst cye
        clear qok eq
        go_upto_region 6 with (first
          | (go_at_call 17; ((with_reducible refine (hh _).mono ?_); rintro e w6 ⟨rfl, hb⟩; have S6 := hid_ (S5.out.keep hb); clear hb))
          | (refine wpList_load_rowW rfl 23 (.tmp 5) rfl x rfl 23 (rowOf X) S6.out.x _ Tryd.underlying23 rfl IX12 ?_))
        refine region_quiet_in (C := fun W => Below w.heap.size w W) (by kernel_rfl) (by kernel_rfl) (show Below w.heap.size w { w6 with drawn := w6.drawn + 1 } from S6.out.below.drew) ?_
        repeat (first | go_big_quiet_skip | (go_big_quiet_want; (first
          | (refine BigFrame.quiet_move _ rfl ?_; go_simp)
          | (refine BigFrame.quiet_assign _ rfl ?_; go_simp)
          | (refine quiet_run (.bool true) ?_ ?_; (focus (intro W hW; go_simp; done)); go_simp)
          | (refine quiet_run (.bool false) ?_ ?_; (focus (intro W hW; go_simp; done)); go_simp)); go_big_quiet_on))
        refine wpQuiet_nil ?_
        intro w7 hw7
        have B7 := hid_ hw7
        clear hw7
        go_wp2
        go_ret
        exact ⟨rfl, B7.out⟩
      · have eq : (clientB b0 && counterB b1) = false := by rw [← Bool.not_eq_true]; exact fun h => hq (qok.1 h)
        rw [if_neg hq] at cye
        rw [eq]
        subst cye
        clear qok eq
        go_upto_region 6 with (first
          | (go_at_call 17; ((with_reducible refine (hh _).mono ?_); rintro e w6 ⟨rfl, hb⟩; have S6 := hid_ (S5.out.keep hb); clear hb))
          | (refine wpList_load_rowW rfl 23 (.tmp 5) rfl x rfl 23 (rowOf X) S6.out.x _ Tryd.underlying23 rfl IX12 ?_))
        refine region_quiet_in (C := fun W => Below w.heap.size w W) (by kernel_rfl) (by kernel_rfl) (show Below w.heap.size w { w6 with drawn := w6.drawn + 1 } from S6.out.below.drew) ?_
        repeat (first | go_big_quiet_skip | (go_big_quiet_want; (first
          | (refine BigFrame.quiet_move _ rfl ?_; go_simp)
          | (refine BigFrame.quiet_assign _ rfl ?_; go_simp)
          | (refine quiet_run (.bool true) ?_ ?_; (focus (intro W hW; go_simp; done)); go_simp)
          | (refine quiet_run (.bool false) ?_ ?_; (focus (intro W hW; go_simp; done)); go_simp)); go_big_quiet_on))
        refine wpQuiet_nil ?_
        intro w7 hw7
        have B7 := hid_ hw7
        clear hw7
        go_wp2
        go_ret
        exact ⟨rfl, B7.out⟩

theorem laid_metN (os : Os) : laidMet Tryd.prog [("casket/sha2.roundWords", Rows.laid_casket_sha2_roundWords)] ((laidWorld os).forCall (fun _ _ => 0) ⟨#[], #[.agg #[.int .i64 0, .int .i64 0], .agg #[.int .i64 0, .int .i64 0]], []⟩).memory :=
  laidMet_of_run' 8 (by kernel_rfl) (by kernel_rfl)

/-- What the walk gives, for every argument and every world in which the constants lie. -/
theorem contract (H : Type) (enc : TypeId × Value → H) (W : World) (base : Nat) (args : Array Value) (ds gs : List (DataW H)) (before : List MemPlace)
    (hval : ∀ (j : Nat) t v, Tryd.f3.params[j]? = some t → args[j]? = some v → Value.okWide Tryd.prog W .any base t v)
    (hW : DataW.Whole enc Tryd.prog Tryd.f3.params.toList Rows.keysNoncesSpec.vars false W args.toList ds gs before) (hL : laidMetH Tryd.prog Rows.keysNoncesRow.laid W) :
    Calls Tryd.prog 3 args W fun e W' => ∃ v, e = .returned v ∧ Rows.keysNoncesSpec.post enc Tryd.prog Tryd.f3 false true false false W args v W' := by
  obtain ⟨ht, hg1⟩ := tab_of hL
  have hW' := hW
  obtain ⟨p, q, hA0, hV, rfl, hfz, hnd⟩ := hW
  have hA : DataW.TrodAll enc Tryd.prog W 0 (fun _ => true) true Tryd.f3.params.toList args.toList ds p := hA0
  rw [Tryd.params3] at hA hval
  obtain ⟨v0, vs0, d0, ds0, p0, q0, hargs, rfl, rfl, h0, r0⟩ := trodAll_cons hA
  obtain ⟨v1, vs1, d1, ds1, p1, q1, rfl, rfl, rfl, h1, r1⟩ := trodAll_cons r0
  obtain ⟨rfl, rfl, rfl⟩ := trodAll_nil r1
  obtain rfl : args = #[v0, v1] := by cases args; simp_all
  obtain ⟨rfl, rfl⟩ := trodVars_none hV
  obtain ⟨a0, a1, rfl, _, _⟩ := open_pair Tryd.underlying22 Tryd.underlying3 (by kernel_rfl) (by kernel_rfl) (hval 0 22 v0 rfl rfl) h0
  obtain ⟨b0, b1, rfl, _, _⟩ := open_pair Tryd.underlying22 Tryd.underlying3 (by kernel_rfl) (by kernel_rfl) (hval 1 22 v1 rfl rfl) h1
  refine (walk W a0 a1 b0 b1).mono fun e W' ⟨he, hg⟩ => ⟨_, he, ?_⟩
  exact law_post laidOut_ (of_decide_eq_true (by kernel_rfl)) rfl rfl Tryd.underlying4 rfl hW' hg

theorem reads (os : Os) {H : Type} (enc : TypeId × Value → H) : ∃ places, DataW.whole enc Tryd.prog ((laidWorld os).forCall (fun _ _ => 0) ⟨#[], #[.agg #[.int .i64 0, .int .i64 0], .agg #[.int .i64 0, .int .i64 0]], []⟩).memory Tryd.f3.params.toList Rows.keysNoncesSpec.vars false #[Value.agg #[.int .i64 0, .int .i64 0], Value.agg #[.int .i64 0, .int .i64 0]].toList 8 = some ([.agg [.lit (.int .i64 0), .lit (.int .i64 0)], .agg [.lit (.int .i64 0), .lit (.int .i64 0)]], [], places) :=
  ⟨[], by kernel_rfl⟩

set_option maxRecDepth 100000 in
theorem lifted (os : Os) (started : os.Started) (H : Type) (enc : TypeId × Value → H) (F : Stop.Interp) :
    ReturnsInHanded {} Tryd.checked os 3 .any ((OpenSpec.ofChange Rows.keysNoncesSpec).preRow enc Tryd.prog Tryd.f3 Rows.keysNoncesRow.domain false Rows.keysNoncesRow.laid) (((OpenSpec.ofChange Rows.keysNoncesSpec).at F).post enc Tryd.prog Tryd.f3 false true false false) := by
  obtain ⟨places, hx⟩ := reads os enc
  refine returnsInHanded_of_row (C := Tryd.checked) (s := OpenSpec.ofChange Rows.keysNoncesSpec) own_ started (by kernel_rfl) Tryd.func3
    (witness_row_at (enc := enc) (C := Tryd.checked) false (laidWorld os) #[.agg #[.int .i64 0, .int .i64 0], .agg #[.int .i64 0, .int .i64 0]] rfl (by kernel_rfl) (by kernel_rfl) (by kernel_rfl)
      (OpenSpec.preRow_of_cond 8 hx (by kernel_rfl) (fun k hk => by cases hk) (by kernel_rfl) (laid_metN os))) ?_
  intro W base args ds gs before hval hW _ _ _ hL _ _
  exact contract H enc W base args ds gs before hval hW hL

theorem said : Rows.KeysNoncesSaid :=
  OpenClaim.holds_of_cond 3 Tryd.f3 rfl rfl rfl rfl rfl rfl rfl ⟨rfl, rfl, rfl, rfl, rfl⟩ rfl rfl rfl rfl rfl (by kernel_rfl) Tryd.func3 (by kernel_rfl)
    (of_decide_eq_true (by kernel_rfl)) (by unfold Func.isWrapper; first | (rw [if_pos (by decide +kernel)]; kernel_rfl) | (rw [if_neg (by decide +kernel)]; exact ⟨rfl, rfl⟩))
    (fun os started H enc _ F => by rw [OpenClaim.pre_eq_preRow]; exact lifted os started H enc F)

/-- No parameter wants a stand-in; the program's own looks are off: what the card asks. -/
theorem plain (f : FuncId) (fn : Func) (hf : Tryd.pinned.checked.prog.funcNamed "casket/casketlaw11.KeysNonces" = some f) (hfn : Tryd.pinned.checked.prog.funcs[f]? = some fn) :
    false = Tryd.pinned.checked.prog.looks [] ∧ ∀ (j : Nat) t, fn.params[j]? = some t → Tryd.pinned.checked.prog.wantsStandIn t = false := by
  obtain rfl : f = 3 := Option.some.inj ((show Tryd.prog.funcNamed "casket/casketlaw11.KeysNonces" = some 3 by kernel_rfl).symm.trans hf) |>.symm
  obtain rfl : fn = Tryd.f3 := (Option.some.inj (Tryd.func3.symm.trans hfn)).symm
  refine ⟨by kernel_rfl, fun j t ht => ?_⟩
  rw [Tryd.params3] at ht
  have hm := Array.mem_of_getElem? ht
  simp only [List.mem_toArray, List.mem_cons, List.not_mem_nil, or_false] at hm
  rcases hm with rfl | rfl
  · exact (show Tryd.prog.wantsStandIn 22 = false by kernel_rfl)
  · exact (show Tryd.prog.wantsStandIn 22 = false by kernel_rfl)

/-- The card. -/
theorem proved : Rows.KeysNoncesCardSaid :=
  Claim7.holds_tied_plain_at .later [] _ _ _ _ said (fun _ h => by cases h) (by kernel_rfl) (fun _ h => by cases h) keysNonces_row_tie rfl ⟨rfl, rfl⟩ (by kernel_rfl) rfl plain (by kernel_rfl)
#print axioms proved
end Go.Proofs.YtjfidfcfhdkciabDoor.keysNonces
