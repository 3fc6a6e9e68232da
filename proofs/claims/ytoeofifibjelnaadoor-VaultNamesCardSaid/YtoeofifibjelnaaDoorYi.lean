/-
  What the laws of a vault begin with: cut; does an ideal vault number its names?
-/
import Derived.Test.YtoeofifibjelnaaDoorYh
import Derived.Test.YtoeofifibjelnaaDoorLc
namespace Go.Proofs.YtoeofifibjelnaaDoor
set_option maxRecDepth 100000
open Go.RowKit Go.Maps
set_option linter.unusedVariables false
set_option linter.unusedSimpArgs false

set_option maxRecDepth 100000 in
set_option maxHeartbeats 2000000 in
theorem vcut_any (w : World) (A9 : Option Addr) (l9 : List UInt8) (p9 c9 N m9 : Nat) (hp : l9.length = p9) (hm9 : m9 = min p9 N) (hN : N ≤ 1000) (hr9 : Rd w w.heap.size A9 l9) (hlc9 : p9 ≤ c9) (hcm9 : c9 ≤ 9223372036854775807) :
    Calls Tryd.prog 9 #[.slice A9 p9 c9, .int .i64 (N : Int)] w (NewP w m9 (l9.take N)) := by
  have hmn9 := fun W => run_min2 p9 N m9 hm9 W
  have hs9 := fun W => slice_to A9 p9 c9 (m9 : Int) m9 rfl (by omega) W
  have M9 := hidyb_ (show (l9.take N).length = m9 by rw [List.length_take, hm9, hp, Nat.min_comm])
  obtain ⟨w1, hw1⟩ : ∃ w1, w.alloc (.cells #[] 5) = w1 := ⟨_, rfl⟩
  have b1 : Below w.heap.size w w1 := by rw [← hw1]; exact (Below.refl _ _).alloc (Nat.le_refl _) _
  have hown : Own8 w1 w.heap.size (.slice (some ⟨w.heap.size, 0, none⟩) 0 0) [] := by
    have h := Own8.lit w w.heap.size [] (Nat.le_refl _) (Nat.zero_le _)
    rw [show rowOf [] = #[] from rfl, hw1] at h
    exact h
  have hwal := hidyb_ b1
  have s1 : w1.heap.size = w.heap.size + 1 := by rw [← hw1]; simp
  have hrt : Rd w1 w.heap.size A9 (l9.take N) := (hr9.take N).below b1
  have hle0 : ([] : List UInt8).length + m9 ≤ 140737488355328 := by simp; omega
  have hsz0 : w.heap.size ≤ w1.heap.size := by omega
  clear hr9 b1 hm9 hp
  generalize l9.take N = t at *
  go_enter Tryd.func9, Tryd.ntmps9
  go_wp2_with (at_builtin; refine wpList_app rfl (.tmp 5) (.tmp 11) rfl hown rfl m9 c9 rfl hrt M9.out hle0 hsz0 ?_; (intro A0 c0 w2 k1 k2 k3; have O2 := hidyb_ (show Own8 w2 w.heap.size (.slice A0 m9 c0) t by simpa using k1); have X2 := hidyb_ (hwal.out.grown k2 hsz0 (fun k hk => by simp [Value.ownBlock] at hk; omega)); clear k1 k2 k3 hrt hown))
  go_ret
  exact ⟨A0, c0, by simp, O2.out, X2.out⟩

/-- An ideal vault of the call's own. -/
structure Mine (w : World) (v sp nm kn : Nat) (K : List UInt8) (N : List (List UInt8)) (S : List (Nat × Nat)) (L : List SealV) (F : List Nat) (W : World) : Prop where
  vlt : VltI W v sp nm kn K N S L F
  own : ∀ k ∈ F, w.heap.size ≤ k
  below : Below w.heap.size w W
section
variable {w W W' : World} {v sp nm kn : Nat} {K : List UInt8} {N N' : List (List UInt8)} {S S' : List (Nat × Nat)} {L L' : List SealV} {F F' : List Nat}
theorem Mine.next (h : Mine w v sp nm kn K N S L F W) (hl : LeavesI W W' v sp nm kn K N' S' L' F F') : Mine w v sp nm kn K N' S' L' F' W' :=
  ⟨hl.1, fun k hk => by
    rcases hl.2.1 k hk with h1 | h1
    · exact h.own k h1
    · exact Nat.le_trans h.below.size h1, h.below.trans (hl.2.2.below h.own h.below.size)⟩
theorem Mine.then_ (h : Mine w v sp nm kn K N S L F W) (hb : Below W.heap.size W W') : Mine w v sp nm kn K N S L F W' := ⟨h.vlt.below hb, h.own, h.below.trans (hb.mono h.below.size)⟩
theorem Mine.tab (h : Mine w v sp nm kn K N S L F W) (ht : Tab w) (hg1 : 1 < w.heap.size) : Tab W := fun t hh => (h.below.cell (p := ⟨_, t, none⟩) hg1).trans (ht t hh)
theorem Mine.glt (h : Mine w v sp nm kn K N S L F W) (hg1 : 1 < w.heap.size) : 1 < W.heap.size := Nat.lt_of_lt_of_le hg1 h.below.size
/-- Something that isn't the vault's stays. -/
theorem LeavesI.bk (hl : LeavesI W W' v sp nm kn K N' S' L' F F') {g : Nat} {t : TypeId} {cs : Array Value} (h : Bk W g t cs) (hg : g ∉ F) : Bk W' g t cs := h.untouched hl.2.2 hg
theorem LeavesI.rdf (hl : LeavesI W W' v sp nm kn K N' S' L' F F') {A : Option Addr} {l : List UInt8} (h : RdF W F A l) : RdF W' F' A l := h.keep hl.2.2 hl.2.1
end
theorem drawB_7 (K : List UInt8) (kind ord n : Nat) : (drawB K kind ord n).getD 7 0 = (highB 8 ord).getD 7 0 := by
  unfold drawB
  simp [List.getD, List.getElem?_append_left (show 7 < (highB 8 ord).length by rw [highB_len]; omega)]
def K1 : List UInt8 := 1 :: zbytes 31
theorem mark_world (w : World) (l : List UInt8) (fz : Nat × Nat) : ∃ g w', w.heap.size = g ∧ w.alloc (.cells (rowOf l) 5 fz) = w' ∧ Below g w w' ∧ Rd w' w'.heap.size (some ⟨g, 0, none⟩) l ∧ w'.heap.size = g + 1 := by
  refine ⟨_, _, rfl, rfl, (Below.refl _ _).alloc (Nat.le_refl _) _, (rd_mark w l fz).more (by simp), by simp⟩

set_option maxRecDepth 100000 in
set_option maxHeartbeats 8000000 in
theorem vaults_any (w : World) (ht : Tab w) (hg1 : 1 < w.heap.size) : Calls Tryd.prog 8 #[] w fun e w' => e = .returned (.bool true) ∧ Below w.heap.size w w' := by
  have hzB := zB
  have KL : K1.length = 32 := rfl
  have ci := ideal_new w K1 KL
  have HT := hidyb_ ht
  have HKB := hidyb_ (show K1 = 1 :: zbytes 31 from rfl)
  have HKL := hidyb_ KL
  generalize K1 = K at *
  clear ht KL
  go_enter Tryd.func8, Tryd.ntmps8
  go_upto_region 2 with (first
    | (refine wpList_built rfl 22 _ rfl (rowOf K) (by rw [HKB.out]; kernel_rfl) ?_)
    | (go_at_call 7; ((with_reducible refine ci.mono ?_); clear ci; rintro e w1 ⟨v, sp, nm, kn, F, rfl, hv, hF, hb⟩; have M1 := hidyb_ (show Mine w v sp nm kn K [] [] [] F w1 from ⟨hv, hF, hb⟩); clear hv hF hb)))
  have k1 := Lib.run_convert_bytes_const (P := Tryd.prog) w1 29 5 #[.int .u8 120] 1 1 Tryd.underlying29 Tryd.underlying5
  obtain ⟨g1, w2, hg1', hw2, b2, R2, S2⟩ := mark_world w1 [120] (1, 2)
  rw [show rowOf [120] = #[.int .u8 120] from rfl] at hw2
  rw [hg1'] at k1
  have M2 := M1.out.then_ (hg1' ▸ b2)
  have cb := vblind_yes M2.vlt (some ⟨g1, 0, none⟩) 1 1 [120] rfl (by omega) (by omega) (Nat.le_refl _) (by omega) R2 (by simp) (M2.tab HT.out hg1) (M2.glt hg1)
  rw [show addNm [] [120] = [[120]] from rfl, show ordN [] [120] = 1 from rfl] at cb
  have HM2 := hidyb_ M2
  obtain ⟨D1, hD1⟩ : ∃ D, drawB K 0 1 24 = D := ⟨_, rfl⟩
  have DL1 := hidyb_ (show D1.length = 32 by rw [← hD1, drawB_len])
  have D17 := hidyb_ (show (D1.getD 7 0).toNat = 1 by rw [← hD1, drawB_7]; decide)
  rw [hD1] at cb
  have I1 := hidyb_ (iB D1 DL1.out)
  have Q1 := hidyb_ (show (rowOf (zbytes 32)).size = (rowOf D1).size by rw [rowOf_size, rowOf_size, DL1.out, zbytes_len])
  clear hD1 b2 R2 S2 M2
  go_upto_region 3 with (first
    | (go_at_call 10; ((with_reducible refine cb.mono ?_); clear cb; rintro e w3 ⟨rfl, hl⟩; have M3 := hidyb_ (HM2.out.next hl); clear hl))
    | (refine wpList_put_row rfl 31 (.tmp 2) (.tmp 17) rfl w3.heap.size (rowOf D1) rfl rfl 31 (rowOf (zbytes 32)) (Bk.new w3 _ _) I1.out Q1.out (bytes_one _) ?_; intro w4 k4 g4 s4; have BX : Below w3.heap.size w3 w4 := (((Below.refl w3.heap.size w3).alloc (Nat.le_refl _) (.cells (rowOf (zbytes 32)) 31)).grown g4 (by simp) (fun k hk => by injection hk with hk; omega)); have K4 := hidyb_ k4; have M4 := hidyb_ (M3.out.then_ BX); have N4 : Hid (w3.heap.size ∉ F) := hidyb_ (fun hm => by have := M3.out.vlt.hF _ hm; omega); clear k4 g4 s4 BX))
  clear k1 hw2 hg1' M1 HM2 M3
  generalize w3.heap.size = b1 at *
  have k1 := Lib.run_convert_bytes_const (P := Tryd.prog) w4 29 5 #[.int .u8 121] 1 1 Tryd.underlying29 Tryd.underlying5
  obtain ⟨g2, w5, hg2', hw5, b5, R5, S5⟩ := mark_world w4 [121] (1, 2)
  rw [show rowOf [121] = #[.int .u8 121] from rfl] at hw5
  rw [hg2'] at k1
  have M5 := M4.out.then_ (hg2' ▸ b5)
  have K5 := hidyb_ (K4.out.below (hg2' ▸ b5) K4.out.lt)
  have cb := vblind_yes M5.vlt (some ⟨g2, 0, none⟩) 1 1 [121] rfl (by omega) (by omega) (Nat.le_refl _) (by omega) R5 (by simp) (M5.tab HT.out hg1) (M5.glt hg1)
  rw [show addNm [[120]] [121] = [[120], [121]] from rfl, show ordN [[120]] [121] = 2 from rfl] at cb
  have HM5 := hidyb_ M5
  obtain ⟨D2, hD2⟩ : ∃ D, drawB K 0 2 24 = D := ⟨_, rfl⟩
  have DL2 := hidyb_ (show D2.length = 32 by rw [← hD2, drawB_len])
  have D27 := hidyb_ (show (D2.getD 7 0).toNat = 2 by rw [← hD2, drawB_7]; decide)
  rw [hD2] at cb
  have I2 := hidyb_ (iB D2 DL2.out)
  have Q2 := hidyb_ (show (rowOf (zbytes 32)).size = (rowOf D2).size by rw [rowOf_size, rowOf_size, DL2.out, zbytes_len])
  clear hD2 b5 R5 S5 M5 M4 K4
  go_upto_region 4 with (first
    | (go_at_call 10; ((with_reducible refine cb.mono ?_); clear cb; rintro e w6 ⟨rfl, hl⟩; have M6 := hidyb_ (HM5.out.next hl); have K6 := hidyb_ (hl.bk K5.out N4.out); clear hl))
    | (refine wpList_put_row rfl 31 (.tmp 4) (.tmp 24) rfl w6.heap.size (rowOf D2) rfl rfl 31 (rowOf (zbytes 32)) (Bk.new w6 _ _) I2.out Q2.out (bytes_one _) ?_; intro w7 k7 g7 s7; have BX : Below w6.heap.size w6 w7 := (((Below.refl w6.heap.size w6).alloc (Nat.le_refl _) (.cells (rowOf (zbytes 32)) 31)).grown g7 (by simp) (fun k hk => by injection hk with hk; omega)); have J7 := hidyb_ k7; have K7 := hidyb_ (K6.out.below BX K6.out.lt); have M7 := hidyb_ (M6.out.then_ BX); have N7 : Hid (w6.heap.size ∉ F) := hidyb_ (fun hm => by have := M6.out.vlt.hF _ hm; omega); clear k7 g7 s7 BX))
  clear k1 hw5 hg2' HM5 M6 K5 K6
  generalize w6.heap.size = b2 at *
  have k1 := Lib.run_convert_bytes_const (P := Tryd.prog) w7 29 5 #[.int .u8 97, .int .u8 98, .int .u8 99] 3 3 Tryd.underlying29 Tryd.underlying5
  obtain ⟨g3, w8, hg3', hw8, b8, R8, S8⟩ := mark_world w7 [97, 98, 99] (3, 4)
  rw [show rowOf [97, 98, 99] = #[.int .u8 97, .int .u8 98, .int .u8 99] from rfl] at hw8
  rw [hg3'] at k1
  have M8 := M7.out.then_ (hg3' ▸ b8)
  have K8 := hidyb_ (K7.out.below (hg3' ▸ b8) K7.out.lt)
  have J8 := hidyb_ (J7.out.below (hg3' ▸ b8) J7.out.lt)
  have ck := keysOf_yes M8.vlt.blk M8.vlt.len 1 1 1 (by omega) (by omega) (by omega) (by omega) (by omega) (by omega) (M8.tab HT.out hg1) (M8.glt hg1)
  have cs := vseal_ideal M8.vlt none (some ⟨g3, 0, none⟩) 0 0 3 3 [] [97, 98, 99] rfl rfl Rd.nil R8 (by omega) (by omega) 1 1 1 (by omega) (by omega) (by omega) (by simp) (by simp) (by simp) ck
  have HM8 := hidyb_ M8
  obtain ⟨D3, hD3⟩ : ∃ D, drawB K 1 ([] : List (Nat × Nat)).length.succ (3 + 8) = D := ⟨_, rfl⟩
  have DL3 := hidyb_ (show D3.length = 19 by rw [← hD3, drawB_len])
  rw [show drawB K 1 (([] : List (Nat × Nat)).length + 1) (3 + 8) = D3 from hD3] at cs
  clear hD3 b8 R8 S8 M8 M7 K7 J7 ck
  have cs2 : Calls Tryd.prog 11 #[.pointer (some ⟨v, 0, none⟩), .int .i64 1, .int .i64 1, .int .i64 1, .slice none 0 0, .slice (some ⟨g3, 0, none⟩) 3 3] w8 (SealedP w8 v sp nm kn K [[120], [121]] [] [] F 19 ⟨1, 1, 1, [], D3, [97, 98, 99]⟩) := cs
  clear cs
  go_upto_region 5 with (go_at_call 11; ((with_reducible refine cs2.mono ?_); clear cs2; rintro e w9 ⟨A9, c9, F9, rfl, ho, hni, hl⟩; have M9 := hidyb_ (HM8.out.next hl); have O9 := hidyb_ ho; have K9 := hidyb_ (hl.bk K8.out N4.out); have J9 := hidyb_ (hl.bk J8.out N7.out); clear hl ho hni))
  clear k1 hw8 hg3' HM8 K8 J8
  have ck := keysOf_yes M9.out.vlt.blk M9.out.vlt.len 1 1 1 (by omega) (by omega) (by omega) (by omega) (by omega) (by omega) (M9.out.tab HT.out hg1) (M9.out.glt hg1)
  have co : Calls Tryd.prog 13 #[.pointer (some ⟨v, 0, none⟩), .int .i64 1, .int .i64 1, .int .i64 1, .slice none 0 0, .slice A9 19 c9] w9 _ := vopen_hit M9.out.vlt none A9 0 0 19 c9 [] D3 rfl DL3.out Rd.nil O9.out.rd.1 (by omega) (by omega) (by omega) 1 1 1 (by omega) (by omega) (by omega) [97, 98, 99] 3 rfl (by omega) (by simp) ck
  clear ck
  go_upto_region 6 with (go_at_call 13; ((with_reducible refine co.mono ?_); clear co; rintro e w10 ⟨A10, c10, rfl, ho, hb⟩; have M10 := hidyb_ (M9.out.then_ hb); have O10 := hidyb_ ho; have K10 := hidyb_ (K9.out.below hb K9.out.lt); have J10 := hidyb_ (J9.out.below hb J9.out.lt); clear hb ho))
  have c1 := (K10.out.cell 7).trans (rowOf_at D1 7 (by rw [DL1.out]; omega))
  rw [D17.out] at c1
  have c2 := (J10.out.cell 7).trans (rowOf_at D2 7 (by rw [DL2.out]; omega))
  rw [D27.out] at c2
  have cv : (convert 29 9 (.slice A10 3 c10)).run Tryd.prog w10 = .ok (.string ⟨#[97, 98, 99]⟩) w10 := conv_strn O10.out.rd.1 3 c10 rfl
  have cc : Calls Tryd.prog 14 #[.pointer (some ⟨v, 0, none⟩)] w10 fun e w' => e = .returned (.int .i64 1) ∧ w10 = w' := count_yes M10.out.vlt.blk M10.out.vlt.len M10.out.vlt.spent
  go_wp2_with (go_at_call 14; ((with_reducible refine cc.mono ?_); clear cc; rintro e w' ⟨rfl, rfl⟩))
  go_ret
  exact ⟨rfl, M10.out.below⟩
end Go.Proofs.YtoeofifibjelnaaDoor
