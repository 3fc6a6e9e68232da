/-
  Contract: chacha.quarter.
-/
import Derived.Test.YtopmngjaieobnaaK0
import Derived.Test.YtopmngjaieobnaaBl
import Derived.Test.YtopmngjaieobnaaQt
import Derived.Deep.DeepCutAuto
import Derived.RegionTactic
namespace Go.Proofs.Ytopmngjaieobnaa
open Go.RowKit
set_option linter.unusedVariables false

theorem hidq_ {p : Prop} (h : p) : Hid p := h
theorem grown_drewN_ {a w : World} {row : Option Nat} (h : a.grownBy w row) (n : Nat) : a.grownBy (w.drewN n) row := ⟨h.os, h.tape, h.output, h.size, h.block⟩

set_option maxRecDepth 100000 in
set_option maxHeartbeats 4000000 in
theorem quarter_any (g a b c d : Nat) (l : List Int) (w : World) (hl : l.length = 16) (ho : okL l) (hg : Bk w g 118 (rowW l)) (ha : a < 16) (hb : b < 16) (hc : c < 16) (hd : d < 16) :
    Calls Try.prog 97 #[.pointer (some ⟨g, 0, none⟩), .int .i64 (a : Int), .int .i64 (b : Int), .int .i64 (c : Int), .int .i64 (d : Int)] w fun e w' => e = .returned (.tuple #[]) ∧ Bk w' g 118 (rowW (quarterL l a b c d)) ∧ w.grownBy w' (some g) := by
  have HL := hidq_ hl
  have HO := hidq_ ho
  have HG := hidq_ hg
  have HR : Hid (w.grownBy w (some g)) := hidq_ (World.grownBy.refl w _)
  clear hl ho hg
  go_enter Try.func97, Try.ntmps97
  have ci := HG.out.cell a
  have cj := HG.out.cell b
  rw [rowW_at _ _ (by rw [HL.out]; exact ha)] at ci
  rw [rowW_at _ _ (by rw [HL.out]; exact hb)] at cj
  obtain ⟨x, hx⟩ : ∃ x, Hid (l.getD a 0 = x) := ⟨_, rfl⟩
  obtain ⟨y, hy⟩ : ∃ x, Hid (l.getD b 0 = x) := ⟨_, rfl⟩
  have bx := getD_okW HO.out a
  have by_ := getD_okW HO.out b
  rw [hx.out] at ci bx
  rw [hy.out] at cj by_
  obtain ⟨bx0, bx1⟩ := bx
  obtain ⟨by0, by1⟩ := by_
  have ti : (a : Int) < 16 := by omega
  have tj : (b : Int) < 16 := by omega
  have zi : (0 : Int) ≤ (a : Int) := by omega
  have zj : (0 : Int) ≤ (b : Int) := by omega
  go_wp2
  refine region_quiet_tail_lit 13 (by kernel_rfl) (by kernel_rfl) ?_
  simp only [List.take_succ_cons, List.take_zero]
  repeat (go_big_quiet_step (fail))
  refine wpQuiet_nil ?_
  intro w' hw'
  obtain ⟨nq, rfl⟩ := hw'
  simp only [List.drop_succ_cons, List.drop_zero]
  have hf := (HG.out.drewN nq).frozen a
  have hset := (HG.out.drewN nq).set_ a (.int .u32 ((x + y) % 4294967296))
  rw [rowW_set] at hset
  refine wpList_plain rfl fun K hK => ?_
  go_simp
  refine hK _ _ ?_
  clear hK K
  have HR2 := hidq_ (grown_put (grown_drewN_ HR.out nq) a (.int .u32 ((x + y) % 4294967296)))
  have HG2 := hidq_ hset
  clear hset hf ci cj HG HR
  obtain ⟨w1, hw1⟩ : ∃ W, Hid ((w.drewN nq).setCell ⟨g, a, none⟩ (.int .u32 ((x + y) % 4294967296)) = W) := ⟨_, rfl⟩
  rw [hw1.out] at HR2 HG2
  change Exit.then _ _ .normal _ ((w.drewN nq).setCell ⟨g, a, none⟩ (.int .u32 ((x + y) % 4294967296)))
  rw [hw1.out]
  obtain ⟨l1, HE1⟩ : ∃ l', Hid (addAt l a b = l') := ⟨_, rfl⟩
  have HG : Hid (Bk w1 g 118 (rowW l1)) := hidq_ (by rw [← HE1.out]; unfold addAt; rw [hx.out, hy.out]; exact HG2.out)
  have HL2 : Hid (l1.length = 16) := hidq_ (by rw [← HE1.out, addAt_len, HL.out])
  have HO2 : Hid (okL l1) := hidq_ (by rw [← HE1.out]; exact addAt_ok HO.out _ _)
  have HR := HR2
  clear HG2 HR2 hx hy bx0 bx1 by0 by1 ti tj zi zj HL HO hw1
  have HL := HL2
  have HO := HO2
  clear HL2 HO2
  rename_i K hK
  refine hK _ _ ?_
  go_upto_region 1 with fail
  have ci := HG.out.cell d
  have cj := HG.out.cell a
  rw [rowW_at _ _ (by rw [HL.out]; exact hd)] at ci
  rw [rowW_at _ _ (by rw [HL.out]; exact ha)] at cj
  obtain ⟨x, hx⟩ : ∃ x, Hid (l1.getD d 0 = x) := ⟨_, rfl⟩
  obtain ⟨y, hy⟩ : ∃ x, Hid (l1.getD a 0 = x) := ⟨_, rfl⟩
  have bx := getD_okW HO.out d
  have by_ := getD_okW HO.out a
  rw [hx.out] at ci bx
  rw [hy.out] at cj by_
  obtain ⟨bx0, bx1⟩ := bx
  obtain ⟨by0, by1⟩ := by_
  have ti : (d : Int) < 16 := by omega
  have tj : (a : Int) < 16 := by omega
  have zi : (0 : Int) ≤ (d : Int) := by omega
  have zj : (0 : Int) ≤ (a : Int) := by omega
  have hz := ok32_bits .xor x y
  have cl := fun W => left_any (bits .xor .u32 x y) 16 hz.1 hz.2 W
  rw [show ((16 : Int) % 32).toNat = 16 from rfl] at cl
  clear hz
  refine region_quiet_tail_lit 16 (by kernel_rfl) (by kernel_rfl) ?_
  simp only [List.take_succ_cons, List.take_zero]
  repeat (go_big_quiet_step ((go_at_call 100; exact (cl _).mono fun _ _ hh => ⟨hh.1, _, hh.2.symm⟩)))
  refine wpQuiet_nil ?_
  intro w' hw'
  obtain ⟨nq, rfl⟩ := hw'
  simp only [List.drop_succ_cons, List.drop_zero]
  have hf := (HG.out.drewN nq).frozen d
  have hset := (HG.out.drewN nq).set_ d (.int .u32 (rotn 16 (bits .xor .u32 x y)))
  rw [rowW_set] at hset
  refine wpList_plain rfl fun K hK => ?_
  go_simp
  refine hK _ _ ?_
  clear hK K
  have HR2 := hidq_ (grown_put (grown_drewN_ HR.out nq) d (.int .u32 (rotn 16 (bits .xor .u32 x y))))
  have HG2 := hidq_ hset
  clear hset hf ci cj HG HR
  obtain ⟨w2, hw2⟩ : ∃ W, Hid ((w1.drewN nq).setCell ⟨g, d, none⟩ (.int .u32 (rotn 16 (bits .xor .u32 x y))) = W) := ⟨_, rfl⟩
  rw [hw2.out] at HR2 HG2
  change Exit.then _ _ .normal _ ((w1.drewN nq).setCell ⟨g, d, none⟩ (.int .u32 (rotn 16 (bits .xor .u32 x y))))
  rw [hw2.out]
  obtain ⟨l2, HE2⟩ : ∃ l', Hid (turnAt l1 d a 16 = l') := ⟨_, rfl⟩
  have HG : Hid (Bk w2 g 118 (rowW l2)) := hidq_ (by rw [← HE2.out]; unfold turnAt; rw [hx.out, hy.out]; exact HG2.out)
  have HL2 : Hid (l2.length = 16) := hidq_ (by rw [← HE2.out, turnAt_len, HL.out])
  have HO2 : Hid (okL l2) := hidq_ (by rw [← HE2.out]; exact turnAt_ok HO.out _ _ _)
  have HR := HR2
  clear HG2 HR2 hx hy bx0 bx1 by0 by1 ti tj zi zj HL HO cl hw2
  have HL := HL2
  have HO := HO2
  clear HL2 HO2
  rename_i K hK
  refine hK _ _ ?_
  go_upto_region 2 with fail
  have ci := HG.out.cell c
  have cj := HG.out.cell d
  rw [rowW_at _ _ (by rw [HL.out]; exact hc)] at ci
  rw [rowW_at _ _ (by rw [HL.out]; exact hd)] at cj
  obtain ⟨x, hx⟩ : ∃ x, Hid (l2.getD c 0 = x) := ⟨_, rfl⟩
  obtain ⟨y, hy⟩ : ∃ x, Hid (l2.getD d 0 = x) := ⟨_, rfl⟩
  have bx := getD_okW HO.out c
  have by_ := getD_okW HO.out d
  rw [hx.out] at ci bx
  rw [hy.out] at cj by_
  obtain ⟨bx0, bx1⟩ := bx
  obtain ⟨by0, by1⟩ := by_
  have ti : (c : Int) < 16 := by omega
  have tj : (d : Int) < 16 := by omega
  have zi : (0 : Int) ≤ (c : Int) := by omega
  have zj : (0 : Int) ≤ (d : Int) := by omega
  refine region_quiet_tail_lit 13 (by kernel_rfl) (by kernel_rfl) ?_
  simp only [List.take_succ_cons, List.take_zero]
  repeat (go_big_quiet_step (fail))
  refine wpQuiet_nil ?_
  intro w' hw'
  obtain ⟨nq, rfl⟩ := hw'
  simp only [List.drop_succ_cons, List.drop_zero]
  have hf := (HG.out.drewN nq).frozen c
  have hset := (HG.out.drewN nq).set_ c (.int .u32 ((x + y) % 4294967296))
  rw [rowW_set] at hset
  refine wpList_plain rfl fun K hK => ?_
  go_simp
  refine hK _ _ ?_
  clear hK K
  have HR2 := hidq_ (grown_put (grown_drewN_ HR.out nq) c (.int .u32 ((x + y) % 4294967296)))
  have HG2 := hidq_ hset
  clear hset hf ci cj HG HR
  obtain ⟨w3, hw3⟩ : ∃ W, Hid ((w2.drewN nq).setCell ⟨g, c, none⟩ (.int .u32 ((x + y) % 4294967296)) = W) := ⟨_, rfl⟩
  rw [hw3.out] at HR2 HG2
  change Exit.then _ _ .normal _ ((w2.drewN nq).setCell ⟨g, c, none⟩ (.int .u32 ((x + y) % 4294967296)))
  rw [hw3.out]
  obtain ⟨l3, HE3⟩ : ∃ l', Hid (addAt l2 c d = l') := ⟨_, rfl⟩
  have HG : Hid (Bk w3 g 118 (rowW l3)) := hidq_ (by rw [← HE3.out]; unfold addAt; rw [hx.out, hy.out]; exact HG2.out)
  have HL2 : Hid (l3.length = 16) := hidq_ (by rw [← HE3.out, addAt_len, HL.out])
  have HO2 : Hid (okL l3) := hidq_ (by rw [← HE3.out]; exact addAt_ok HO.out _ _)
  have HR := HR2
  clear HG2 HR2 hx hy bx0 bx1 by0 by1 ti tj zi zj HL HO hw3
  have HL := HL2
  have HO := HO2
  clear HL2 HO2
  rename_i K hK
  refine hK _ _ ?_
  go_upto_region 3 with fail
  have ci := HG.out.cell b
  have cj := HG.out.cell c
  rw [rowW_at _ _ (by rw [HL.out]; exact hb)] at ci
  rw [rowW_at _ _ (by rw [HL.out]; exact hc)] at cj
  obtain ⟨x, hx⟩ : ∃ x, Hid (l3.getD b 0 = x) := ⟨_, rfl⟩
  obtain ⟨y, hy⟩ : ∃ x, Hid (l3.getD c 0 = x) := ⟨_, rfl⟩
  have bx := getD_okW HO.out b
  have by_ := getD_okW HO.out c
  rw [hx.out] at ci bx
  rw [hy.out] at cj by_
  obtain ⟨bx0, bx1⟩ := bx
  obtain ⟨by0, by1⟩ := by_
  have ti : (b : Int) < 16 := by omega
  have tj : (c : Int) < 16 := by omega
  have zi : (0 : Int) ≤ (b : Int) := by omega
  have zj : (0 : Int) ≤ (c : Int) := by omega
  have hz := ok32_bits .xor x y
  have cl := fun W => left_any (bits .xor .u32 x y) 12 hz.1 hz.2 W
  rw [show ((12 : Int) % 32).toNat = 12 from rfl] at cl
  clear hz
  refine region_quiet_tail_lit 16 (by kernel_rfl) (by kernel_rfl) ?_
  simp only [List.take_succ_cons, List.take_zero]
  repeat (go_big_quiet_step ((go_at_call 100; exact (cl _).mono fun _ _ hh => ⟨hh.1, _, hh.2.symm⟩)))
  refine wpQuiet_nil ?_
  intro w' hw'
  obtain ⟨nq, rfl⟩ := hw'
  simp only [List.drop_succ_cons, List.drop_zero]
  have hf := (HG.out.drewN nq).frozen b
  have hset := (HG.out.drewN nq).set_ b (.int .u32 (rotn 12 (bits .xor .u32 x y)))
  rw [rowW_set] at hset
  refine wpList_plain rfl fun K hK => ?_
  go_simp
  refine hK _ _ ?_
  clear hK K
  have HR2 := hidq_ (grown_put (grown_drewN_ HR.out nq) b (.int .u32 (rotn 12 (bits .xor .u32 x y))))
  have HG2 := hidq_ hset
  clear hset hf ci cj HG HR
  obtain ⟨w4, hw4⟩ : ∃ W, Hid ((w3.drewN nq).setCell ⟨g, b, none⟩ (.int .u32 (rotn 12 (bits .xor .u32 x y))) = W) := ⟨_, rfl⟩
  rw [hw4.out] at HR2 HG2
  change Exit.then _ _ .normal _ ((w3.drewN nq).setCell ⟨g, b, none⟩ (.int .u32 (rotn 12 (bits .xor .u32 x y))))
  rw [hw4.out]
  obtain ⟨l4, HE4⟩ : ∃ l', Hid (turnAt l3 b c 12 = l') := ⟨_, rfl⟩
  have HG : Hid (Bk w4 g 118 (rowW l4)) := hidq_ (by rw [← HE4.out]; unfold turnAt; rw [hx.out, hy.out]; exact HG2.out)
  have HL2 : Hid (l4.length = 16) := hidq_ (by rw [← HE4.out, turnAt_len, HL.out])
  have HO2 : Hid (okL l4) := hidq_ (by rw [← HE4.out]; exact turnAt_ok HO.out _ _ _)
  have HR := HR2
  clear HG2 HR2 hx hy bx0 bx1 by0 by1 ti tj zi zj HL HO cl hw4
  have HL := HL2
  have HO := HO2
  clear HL2 HO2
  rename_i K hK
  refine hK _ _ ?_
  go_upto_region 4 with fail
  have ci := HG.out.cell a
  have cj := HG.out.cell b
  rw [rowW_at _ _ (by rw [HL.out]; exact ha)] at ci
  rw [rowW_at _ _ (by rw [HL.out]; exact hb)] at cj
  obtain ⟨x, hx⟩ : ∃ x, Hid (l4.getD a 0 = x) := ⟨_, rfl⟩
  obtain ⟨y, hy⟩ : ∃ x, Hid (l4.getD b 0 = x) := ⟨_, rfl⟩
  have bx := getD_okW HO.out a
  have by_ := getD_okW HO.out b
  rw [hx.out] at ci bx
  rw [hy.out] at cj by_
  obtain ⟨bx0, bx1⟩ := bx
  obtain ⟨by0, by1⟩ := by_
  have ti : (a : Int) < 16 := by omega
  have tj : (b : Int) < 16 := by omega
  have zi : (0 : Int) ≤ (a : Int) := by omega
  have zj : (0 : Int) ≤ (b : Int) := by omega
  refine region_quiet_tail_lit 13 (by kernel_rfl) (by kernel_rfl) ?_
  simp only [List.take_succ_cons, List.take_zero]
  repeat (go_big_quiet_step (fail))
  refine wpQuiet_nil ?_
  intro w' hw'
  obtain ⟨nq, rfl⟩ := hw'
  simp only [List.drop_succ_cons, List.drop_zero]
  have hf := (HG.out.drewN nq).frozen a
  have hset := (HG.out.drewN nq).set_ a (.int .u32 ((x + y) % 4294967296))
  rw [rowW_set] at hset
  refine wpList_plain rfl fun K hK => ?_
  go_simp
  refine hK _ _ ?_
  clear hK K
  have HR2 := hidq_ (grown_put (grown_drewN_ HR.out nq) a (.int .u32 ((x + y) % 4294967296)))
  have HG2 := hidq_ hset
  clear hset hf ci cj HG HR
  obtain ⟨w5, hw5⟩ : ∃ W, Hid ((w4.drewN nq).setCell ⟨g, a, none⟩ (.int .u32 ((x + y) % 4294967296)) = W) := ⟨_, rfl⟩
  rw [hw5.out] at HR2 HG2
  change Exit.then _ _ .normal _ ((w4.drewN nq).setCell ⟨g, a, none⟩ (.int .u32 ((x + y) % 4294967296)))
  rw [hw5.out]
  obtain ⟨l5, HE5⟩ : ∃ l', Hid (addAt l4 a b = l') := ⟨_, rfl⟩
  have HG : Hid (Bk w5 g 118 (rowW l5)) := hidq_ (by rw [← HE5.out]; unfold addAt; rw [hx.out, hy.out]; exact HG2.out)
  have HL2 : Hid (l5.length = 16) := hidq_ (by rw [← HE5.out, addAt_len, HL.out])
  have HO2 : Hid (okL l5) := hidq_ (by rw [← HE5.out]; exact addAt_ok HO.out _ _)
  have HR := HR2
  clear HG2 HR2 hx hy bx0 bx1 by0 by1 ti tj zi zj HL HO hw5
  have HL := HL2
  have HO := HO2
  clear HL2 HO2
  rename_i K hK
  refine hK _ _ ?_
  go_upto_region 5 with fail
  have ci := HG.out.cell d
  have cj := HG.out.cell a
  rw [rowW_at _ _ (by rw [HL.out]; exact hd)] at ci
  rw [rowW_at _ _ (by rw [HL.out]; exact ha)] at cj
  obtain ⟨x, hx⟩ : ∃ x, Hid (l5.getD d 0 = x) := ⟨_, rfl⟩
  obtain ⟨y, hy⟩ : ∃ x, Hid (l5.getD a 0 = x) := ⟨_, rfl⟩
  have bx := getD_okW HO.out d
  have by_ := getD_okW HO.out a
  rw [hx.out] at ci bx
  rw [hy.out] at cj by_
  obtain ⟨bx0, bx1⟩ := bx
  obtain ⟨by0, by1⟩ := by_
  have ti : (d : Int) < 16 := by omega
  have tj : (a : Int) < 16 := by omega
  have zi : (0 : Int) ≤ (d : Int) := by omega
  have zj : (0 : Int) ≤ (a : Int) := by omega
  have hz := ok32_bits .xor x y
  have cl := fun W => left_any (bits .xor .u32 x y) 8 hz.1 hz.2 W
  rw [show ((8 : Int) % 32).toNat = 8 from rfl] at cl
  clear hz
  refine region_quiet_tail_lit 16 (by kernel_rfl) (by kernel_rfl) ?_
  simp only [List.take_succ_cons, List.take_zero]
  repeat (go_big_quiet_step ((go_at_call 100; exact (cl _).mono fun _ _ hh => ⟨hh.1, _, hh.2.symm⟩)))
  refine wpQuiet_nil ?_
  intro w' hw'
  obtain ⟨nq, rfl⟩ := hw'
  simp only [List.drop_succ_cons, List.drop_zero]
  have hf := (HG.out.drewN nq).frozen d
  have hset := (HG.out.drewN nq).set_ d (.int .u32 (rotn 8 (bits .xor .u32 x y)))
  rw [rowW_set] at hset
  refine wpList_plain rfl fun K hK => ?_
  go_simp
  refine hK _ _ ?_
  clear hK K
  have HR2 := hidq_ (grown_put (grown_drewN_ HR.out nq) d (.int .u32 (rotn 8 (bits .xor .u32 x y))))
  have HG2 := hidq_ hset
  clear hset hf ci cj HG HR
  obtain ⟨w6, hw6⟩ : ∃ W, Hid ((w5.drewN nq).setCell ⟨g, d, none⟩ (.int .u32 (rotn 8 (bits .xor .u32 x y))) = W) := ⟨_, rfl⟩
  rw [hw6.out] at HR2 HG2
  change Exit.then _ _ .normal _ ((w5.drewN nq).setCell ⟨g, d, none⟩ (.int .u32 (rotn 8 (bits .xor .u32 x y))))
  rw [hw6.out]
  obtain ⟨l6, HE6⟩ : ∃ l', Hid (turnAt l5 d a 8 = l') := ⟨_, rfl⟩
  have HG : Hid (Bk w6 g 118 (rowW l6)) := hidq_ (by rw [← HE6.out]; unfold turnAt; rw [hx.out, hy.out]; exact HG2.out)
  have HL2 : Hid (l6.length = 16) := hidq_ (by rw [← HE6.out, turnAt_len, HL.out])
  have HO2 : Hid (okL l6) := hidq_ (by rw [← HE6.out]; exact turnAt_ok HO.out _ _ _)
  have HR := HR2
  clear HG2 HR2 hx hy bx0 bx1 by0 by1 ti tj zi zj HL HO cl hw6
  have HL := HL2
  have HO := HO2
  clear HL2 HO2
  rename_i K hK
  refine hK _ _ ?_
  go_upto_region 6 with fail
  have ci := HG.out.cell c
  have cj := HG.out.cell d
  rw [rowW_at _ _ (by rw [HL.out]; exact hc)] at ci
  rw [rowW_at _ _ (by rw [HL.out]; exact hd)] at cj
  obtain ⟨x, hx⟩ : ∃ x, Hid (l6.getD c 0 = x) := ⟨_, rfl⟩
  obtain ⟨y, hy⟩ : ∃ x, Hid (l6.getD d 0 = x) := ⟨_, rfl⟩
  have bx := getD_okW HO.out c
  have by_ := getD_okW HO.out d
  rw [hx.out] at ci bx
  rw [hy.out] at cj by_
  obtain ⟨bx0, bx1⟩ := bx
  obtain ⟨by0, by1⟩ := by_
  have ti : (c : Int) < 16 := by omega
  have tj : (d : Int) < 16 := by omega
  have zi : (0 : Int) ≤ (c : Int) := by omega
  have zj : (0 : Int) ≤ (d : Int) := by omega
  refine region_quiet_tail_lit 13 (by kernel_rfl) (by kernel_rfl) ?_
  simp only [List.take_succ_cons, List.take_zero]
  repeat (go_big_quiet_step (fail))
  refine wpQuiet_nil ?_
  intro w' hw'
  obtain ⟨nq, rfl⟩ := hw'
  simp only [List.drop_succ_cons, List.drop_zero]
  have hf := (HG.out.drewN nq).frozen c
  have hset := (HG.out.drewN nq).set_ c (.int .u32 ((x + y) % 4294967296))
  rw [rowW_set] at hset
  refine wpList_plain rfl fun K hK => ?_
  go_simp
  refine hK _ _ ?_
  clear hK K
  have HR2 := hidq_ (grown_put (grown_drewN_ HR.out nq) c (.int .u32 ((x + y) % 4294967296)))
  have HG2 := hidq_ hset
  clear hset hf ci cj HG HR
  obtain ⟨w7, hw7⟩ : ∃ W, Hid ((w6.drewN nq).setCell ⟨g, c, none⟩ (.int .u32 ((x + y) % 4294967296)) = W) := ⟨_, rfl⟩
  rw [hw7.out] at HR2 HG2
  change Exit.then _ _ .normal _ ((w6.drewN nq).setCell ⟨g, c, none⟩ (.int .u32 ((x + y) % 4294967296)))
  rw [hw7.out]
  obtain ⟨l7, HE7⟩ : ∃ l', Hid (addAt l6 c d = l') := ⟨_, rfl⟩
  have HG : Hid (Bk w7 g 118 (rowW l7)) := hidq_ (by rw [← HE7.out]; unfold addAt; rw [hx.out, hy.out]; exact HG2.out)
  have HL2 : Hid (l7.length = 16) := hidq_ (by rw [← HE7.out, addAt_len, HL.out])
  have HO2 : Hid (okL l7) := hidq_ (by rw [← HE7.out]; exact addAt_ok HO.out _ _)
  have HR := HR2
  clear HG2 HR2 hx hy bx0 bx1 by0 by1 ti tj zi zj HL HO hw7
  have HL := HL2
  have HO := HO2
  clear HL2 HO2
  rename_i K hK
  refine hK _ _ ?_
  go_upto_region 7 with fail
  have ci := HG.out.cell b
  have cj := HG.out.cell c
  rw [rowW_at _ _ (by rw [HL.out]; exact hb)] at ci
  rw [rowW_at _ _ (by rw [HL.out]; exact hc)] at cj
  obtain ⟨x, hx⟩ : ∃ x, Hid (l7.getD b 0 = x) := ⟨_, rfl⟩
  obtain ⟨y, hy⟩ : ∃ x, Hid (l7.getD c 0 = x) := ⟨_, rfl⟩
  have bx := getD_okW HO.out b
  have by_ := getD_okW HO.out c
  rw [hx.out] at ci bx
  rw [hy.out] at cj by_
  obtain ⟨bx0, bx1⟩ := bx
  obtain ⟨by0, by1⟩ := by_
  have ti : (b : Int) < 16 := by omega
  have tj : (c : Int) < 16 := by omega
  have zi : (0 : Int) ≤ (b : Int) := by omega
  have zj : (0 : Int) ≤ (c : Int) := by omega
  have hz := ok32_bits .xor x y
  have cl := fun W => left_any (bits .xor .u32 x y) 7 hz.1 hz.2 W
  rw [show ((7 : Int) % 32).toNat = 7 from rfl] at cl
  clear hz
  refine region_quiet_tail_lit 16 (by kernel_rfl) (by kernel_rfl) ?_
  simp only [List.take_succ_cons, List.take_zero]
  repeat (go_big_quiet_step ((go_at_call 100; exact (cl _).mono fun _ _ hh => ⟨hh.1, _, hh.2.symm⟩)))
  refine wpQuiet_nil ?_
  intro w' hw'
  obtain ⟨nq, rfl⟩ := hw'
  simp only [List.drop_succ_cons, List.drop_zero]
  have hf := (HG.out.drewN nq).frozen b
  have hset := (HG.out.drewN nq).set_ b (.int .u32 (rotn 7 (bits .xor .u32 x y)))
  rw [rowW_set] at hset
  refine wpList_plain rfl fun K hK => ?_
  go_simp
  refine hK _ _ ?_
  clear hK K
  have HR2 := hidq_ (grown_put (grown_drewN_ HR.out nq) b (.int .u32 (rotn 7 (bits .xor .u32 x y))))
  have HG2 := hidq_ hset
  clear hset hf ci cj HG HR
  obtain ⟨l8, HE8⟩ : ∃ l', Hid (turnAt l7 b c 7 = l') := ⟨_, rfl⟩
  have HG : Hid (Bk ((w7.drewN nq).setCell ⟨g, b, none⟩ (.int .u32 (rotn 7 (bits .xor .u32 x y)))) g 118 (rowW l8)) := hidq_ (by rw [← HE8.out]; unfold turnAt; rw [hx.out, hy.out]; exact HG2.out)
  have HL2 : Hid (l8.length = 16) := hidq_ (by rw [← HE8.out, turnAt_len, HL.out])
  have HO2 : Hid (okL l8) := hidq_ (by rw [← HE8.out]; exact turnAt_ok HO.out _ _ _)
  have HR := HR2
  clear HG2 HR2 hx hy bx0 bx1 by0 by1 ti tj zi zj HL HO cl
  have HL := HL2
  have HO := HO2
  clear HL2 HO2
  have hq : quarterL l a b c d = l8 := by unfold quarterL; rw [HE1.out, HE2.out, HE3.out, HE4.out, HE5.out, HE6.out, HE7.out, HE8.out]
  go_wp2
  go_end0
  exact ⟨rfl, by rw [hq]; exact HG.out, HR.out⟩
end Go.Proofs.Ytopmngjaieobnaa
