/-
  Proved: for every text of sixteen bytes and every end of a key PolyBlocks answers true: by the key's r of 1 the tag is the text's number, 2^128 and the key's end, together. No condition.
-/
import Derived.Test.YtmiaeddgacgpfabP7
import Derived.Test.YtmiaeddgacgpfabOa
namespace Go.Proofs.Ytmiaeddgacgpfab.polyBlocks
open Go.ChangeShapes Go.WideShapes Go.ChangeAt Go.RowKit
set_option linter.unusedVariables false

/-- The key: one, noughts, the end. -/
def keyE (e : List UInt8) : List UInt8 := (1 :: List.replicate 15 0) ++ e
theorem keyE_len (e : List UInt8) (h : e.length = 16) : (keyE e).length = 32 := by simp [keyE, h]
theorem keyE_drop (e : List UInt8) : (keyE e).drop 16 = e := List.drop_left' (by simp)
theorem keyE_take (e : List UInt8) : (keyE e).take 16 = 1 :: List.replicate 15 0 := List.take_left' (by simp)
theorem leN16 (l : List UInt8) (h : l.length = 16) : leN l < 340282366920938463463374607431768211456 := by
  have h1 := leN_lt l
  rwa [h, show (256 : Nat) ^ 16 = 340282366920938463463374607431768211456 by decide] at h1
theorem tag_one (b e : List UInt8) (hb : b.length = 16) (he : e.length = 16) : polyTag (keyE e) b = lowB 16 (leN b + leN e) := by
  have hf : (factN (keyE e)).val = 1 := by
    unfold factN
    rw [keyE_take]
    decide +kernel
  have h1 := leN16 b hb
  have h2 := leN16 e he
  have ha : accP 1 b ((b.length + 15) / 16) = ((leN b : Nat) : Int) + 340282366920938463463374607431768211456 := by
    rw [hb]
    show (0 + ((leN ((b.drop 0).take 16) + 256 ^ ((b.drop 0).take 16).length : Nat) : Int)) * 1 % primeP = _
    rw [List.drop_zero, List.take_of_length_le (by omega), hb, show (256 : Nat) ^ 16 = 340282366920938463463374607431768211456 by decide]
    unfold primeP
    omega
  unfold polyTag
  rw [hf, ha, keyE_drop]
  rw [← lowB_mod 16 (leN b + leN e), show (256 : Nat) ^ 16 = 340282366920938463463374607431768211456 by decide]
  congr 1
  omega
/-- What has been carried behind k bytes. -/
def carr (b e : List UInt8) (k : Nat) : Nat := (leN (b.take k) + leN (e.take k)) / 256 ^ k
theorem leN_take_succ (l : List UInt8) (k : Nat) (h : k < l.length) : leN (l.take (k + 1)) = leN (l.take k) + (l.getD k 0).toNat * 256 ^ k := by
  rw [take_snoc8 l k h, leN_snoc, List.length_take, Nat.min_eq_left (Nat.le_of_lt h)]
theorem carr_next (b e : List UInt8) (k : Nat) (hb : k < b.length) (he : k < e.length) : carr b e (k + 1) = ((b.getD k 0).toNat + (e.getD k 0).toNat + carr b e k) / 256 := by
  unfold carr
  rw [leN_take_succ b k hb, leN_take_succ e k he, Nat.pow_succ, ← Nat.div_div_eq_div_mul]
  congr 1
  have hp : 0 < 256 ^ k := Nat.pow_pos (by omega)
  have h : leN (b.take k) + (b.getD k 0).toNat * 256 ^ k + (leN (e.take k) + (e.getD k 0).toNat * 256 ^ k) = (leN (b.take k) + leN (e.take k)) + 256 ^ k * ((b.getD k 0).toNat + (e.getD k 0).toNat) := by
    rw [Nat.mul_add, Nat.mul_comm (256 ^ k), Nat.mul_comm (256 ^ k)]
    omega
  rw [h, Nat.add_mul_div_left _ _ hp]
  omega
theorem carr_le (b e : List UInt8) : ∀ k, k ≤ b.length → k ≤ e.length → carr b e k ≤ 1
  | 0, _, _ => by simp [carr, leN, beN]
  | k + 1, hb, he => by
    have ih := carr_le b e k (by omega) (by omega)
    rw [carr_next b e k (by omega) (by omega)]
    have h1 := (b.getD k 0).toNat_lt
    have h2 := (e.getD k 0).toNat_lt
    omega
theorem leN_split (l : List UInt8) (k : Nat) : leN l = leN (l.take k) + 256 ^ (l.take k).length * leN (l.drop k) := by
  have h := leN_append (l.take k) (l.drop k)
  rwa [List.take_append_drop] at h
theorem digit (b e : List UInt8) (k : Nat) (hb : k < b.length) (he : k < e.length) : (leN b + leN e) / 256 ^ k % 256 = ((b.getD k 0).toNat + (e.getD k 0).toNat + carr b e k) % 256 := by
  have hp : 0 < 256 ^ k := Nat.pow_pos (by omega)
  have h1 := leN_split b k
  have h2 := leN_split e k
  rw [List.length_take, Nat.min_eq_left (Nat.le_of_lt hb)] at h1
  rw [List.length_take, Nat.min_eq_left (Nat.le_of_lt he)] at h2
  have h3 : leN b + leN e = (leN (b.take k) + leN (e.take k)) + 256 ^ k * (leN (b.drop k) + leN (e.drop k)) := by rw [Nat.mul_add]; omega
  rw [h3, Nat.add_mul_div_left _ _ hp]
  have d1 : leN (b.drop k) = (b.getD k 0).toNat + 256 * leN (b.drop (k + 1)) := by
    rw [List.drop_eq_getElem_cons hb, leN_cons]; simp [List.getD, hb]
  have d2 : leN (e.drop k) = (e.getD k 0).toNat + 256 * leN (e.drop (k + 1)) := by
    rw [List.drop_eq_getElem_cons he, leN_cons]; simp [List.getD, he]
  unfold carr
  rw [d1, d2]
  omega
theorem lowB_getD (n x k : Nat) (h : k < n) : ((lowB n x).getD k 0).toNat = x / 256 ^ k % 256 := by
  simp [lowB, List.getD, h]

set_option maxRecDepth 100000 in
set_option maxHeartbeats 4000000 in
theorem walk (b e : List UInt8) (w : World) (hb : b.length = 16) (he : e.length = 16) :
    Calls Try.prog 6 #[.agg (rowOf b), .agg (rowOf e)] w fun e w' => e = .returned (.bool true) ∧ Below w.heap.size w w' := by
  have hz := z32
  have hz16 := z16
  have e32 : ∀ l : List UInt8, l.length = 32 → (Try.prog.info? 22).map (·.size) = some (rowOf l).size := fun l h => by rw [rowOf_size, h]; exact i32_
  have E32 := hid_ e32
  have e16 : ∀ l : List UInt8, l.length = 16 → (Try.prog.info? 23).map (·.size) = some (rowOf l).size := fun l h => by rw [rowOf_size, h]; exact i16_
  have E16 := hid_ e16
  obtain ⟨w1, hw1⟩ : ∃ w1, Hid (((w.alloc (.cells (rowOf b) 23)).alloc (.cells (rowOf e) 23)).alloc (.cells (rowOf (zbytes 32)) 22) = w1) := ⟨_, rfl⟩
  have a0 : Bk w1 w.heap.size 23 (rowOf b) := by rw [← hw1.out]; exact ((Bk.new w _ _).alloc _).alloc _
  have a1 : Bk w1 (w.heap.size + 1) 23 (rowOf e) := by rw [← hw1.out]; simpa using (Bk.new (w.alloc (.cells (rowOf b) 23)) 23 (rowOf e)).alloc (.cells (rowOf (zbytes 32)) 22)
  have a2 : Bk w1 (w.heap.size + 1 + 1) 22 (rowOf (zbytes 32)) := by rw [← hw1.out]; simpa using Bk.new ((w.alloc (.cells (rowOf b) 23)).alloc (.cells (rowOf e) 23)) 22 (rowOf (zbytes 32))
  have x1 : Below w.heap.size w w1 := by rw [← hw1.out]; exact (((Below.refl _ _).alloc (Nat.le_refl _) _).alloc (by simp) _).alloc (by simp; omega) _
  have c0 : w1.cell? ⟨w.heap.size + 1 + 1, 0, none⟩ = some (.int .u8 0) := a2.cell 0
  have f0 := a2.frozen 0
  have q0 : Bk (w1.setCell ⟨w.heap.size + 1 + 1, 0, none⟩ (.int .u8 1)) (w.heap.size + 1 + 1) 22 (rowOf (1 :: List.replicate 31 0)) := a2.set_ 0 (.int .u8 1)
  have A0 := hid_ (a0.far (p := ⟨w.heap.size + 1 + 1, 0, none⟩) (by show w.heap.size ≠ w.heap.size + 1 + 1; omega) (.int .u8 1))
  have A1 := hid_ (a1.far (p := ⟨w.heap.size + 1 + 1, 0, none⟩) (by show w.heap.size + 1 ≠ w.heap.size + 1 + 1; omega) (.int .u8 1))
  have A2 := hid_ q0
  have X1 := hid_ (x1.setCell (p := ⟨w.heap.size + 1 + 1, 0, none⟩) (by show w.heap.size ≤ w.heap.size + 1 + 1; omega) (.int .u8 1))
  have HE := hid_ he
  have HBL := hid_ hb
  have hla : laid (1 :: List.replicate 31 0) 16 e = keyE e := by
    unfold laid keyE
    rw [he, List.drop_of_length_le (by simp), List.append_nil]
    rfl
  have HLA := hid_ hla
  have ht1 := tag_one b e hb he
  obtain ⟨T, hT⟩ : ∃ T, Hid (lowB 16 (leN b + leN e) = T) := ⟨_, rfl⟩
  have hTl : T.length = 16 := by rw [← hT.out]; exact lowB_len _ _
  rw [hT.out] at ht1
  have hfit : 16 + 16 ≤ (rowOf (1 :: List.replicate 31 (0 : UInt8))).size := by rw [rowOf_size]; simp
  have HF := hid_ hfit
  have s1 := slice_from32 (w.heap.size + 1 + 1) 16 (by omega)
  have s2 := slice_all16 (w.heap.size + 1)
  have s3 := slice_all16 w.heap.size
  clear e32 e16 a0 a1 a2 x1 q0 hla hfit he hb
  go_enter Try.func6, Try.ntmps6
  go_upto_region 2 with fail
  rw [hw1.out]
  go_upto_region 3 with fail
  obtain ⟨w2, hw2⟩ : ∃ w2, Hid (w1.setCell ⟨w.heap.size + 1 + 1, 0, none⟩ (.int .u8 1) = w2) := ⟨_, rfl⟩
  rw [hw2.out]
  rw [hw2.out] at A0 A1 A2 X1
  have hl1 := A1.out.lt
  have hl2 := A2.out.lt
  go_cut [5] (fun s5 wx => s5 = .pointer (some ⟨w.heap.size + 1 + 1, 0, none⟩) ∧ Hid (Bk wx (w.heap.size + 1 + 1) 22 (rowOf (keyE e))) ∧ Hid (Bk wx (w.heap.size + 1) 23 (rowOf e)) ∧ Hid (Bk wx w.heap.size 23 (rowOf b)) ∧ Hid (Below w.heap.size w wx))
  case first =>
    go_region_law (refine step_copy8 rfl (.tmp 11) (.tmp 12) rfl (w.heap.size + 1 + 1) 16 16 16 rfl (some ⟨w.heap.size + 1, 0, none⟩) 16 16 rfl e 16 HE.out (by omega) rfl (w.heap.size + 1 + 1) ((rd_of_bk A1.out.drew (Nat.lt_succ_self _)).rdn (Nat.le_refl _) (Nat.le_of_lt hl2)) 22 (rowOf (1 :: List.replicate 31 0)) A2.out.drew HF.out ?_; intro w9 k9 g9 s9; rw [row_laid, HLA.out] at k9)
    all_goals
      go_wp2
      go_meet
      exact ⟨rfl, k9, A1.out.drew.grown g9 (fun e => by injection e with e; omega), A0.out.drew.grown g9 (fun e => by injection e with e; omega), X1.out.drew.grown g9 X1.out.size (fun i hi => by injection hi with hi; omega)⟩
  case rest =>
    obtain ⟨rfl, K2, E2, B2, X2⟩ := hcut
    go_upto_region 4 with fail
    have hl3 := K2.out.lt
    have hl4 := E2.out.lt
    have hl5 := B2.out.lt
    have ct : ∀ W : World, Below wc.heap.size wc W → Calls Try.prog 12 #[.agg (rowOf (keyE e)), .slice (some ⟨w.heap.size, 0, none⟩) 16 16] W fun e w' => e = .returned (.agg (rowOf T)) ∧ Below W.heap.size W w' := fun W h => by
      have hk := B2.out.below h hl5
      have ht := tag_any (keyE e) (some ⟨w.heap.size, 0, none⟩) 16 16 b W (keyE_len e HE.out) HBL.out (Nat.le_refl _) (by omega) (rd_of_bk hk hk.lt)
      rwa [ht1] at ht
    go_cut [6] (fun s6 wx => ∃ D, s6 = .pointer (some ⟨D, 0, none⟩) ∧ Hid (w.heap.size + 1 < D) ∧ Hid (Bk wx D 23 (rowOf T)) ∧ Hid (Bk wx (w.heap.size + 1) 23 (rowOf e)) ∧ Hid (Bk wx w.heap.size 23 (rowOf b)) ∧ Hid (Below w.heap.size w wx))
    case first =>
      have K2d := K2.out.drew
      have K2a := K2.out.drew.alloc (.cells (rowOf (zbytes 16)) 23)
      have hkl := keyE_len e HE.out
      have bd : Below wc.heap.size wc wc.drew := (Below.refl _ _).drew
      have ba : Below wc.heap.size wc (wc.drew.alloc (.cells (rowOf (zbytes 16)) 23)) := bd.alloc (Nat.le_refl _) _
      have Da : Bk (wc.drew.alloc (.cells (rowOf (zbytes 16)) 23)) wc.heap.size 23 (rowOf (zbytes 16)) := Bk.new wc.drew _ _
      have cd := ct _ bd
      have ca := ct _ ba
      have fin : ∀ (W : World) (D : Nat), wc.heap.size ≤ D → Below wc.heap.size wc W → Bk W D 23 (rowOf T) → Hid (w.heap.size + 1 < D) ∧ Hid (Bk W D 23 (rowOf T)) ∧ Hid (Bk W (w.heap.size + 1) 23 (rowOf e)) ∧ Hid (Bk W w.heap.size 23 (rowOf b)) ∧ Hid (Below w.heap.size w W) := fun W D h1 h2 h3 =>
        ⟨hid_ (by omega), h3, E2.out.below h2 hl4, B2.out.below h2 hl5, X2.out.trans (h2.mono X2.out.size)⟩
      refine wp_region_any (by kernel_rfl) ?_
      change wpAny _ _ _ _ _ _ _ (World.drew _)
      refine wpAny_take (i := 1) (v := .slice (some ⟨w.heap.size, 0, none⟩) 16 16) rfl (by kernel_rfl) (by kernel_rfl) (by kernel_rfl) (fun _ _ _ h => h) (Or.inl ⟨by rfl, ?_⟩) ?_
      · intro W
        go_simp
      refine wpAny_ready (rs := [0, 3]) (by kernel_rfl) (by simp) ?_
      refine AllReady.cons rfl (fun K hK => ?_) (AllReady.cons rfl (fun K hK => ?_) AllReady.nil)
      · refine step_load_row rfl 22 (.tmp 5) rfl (w.heap.size + 1 + 1) rfl 22 (rowOf (keyE e)) K2d _ Try.underlying22 rfl (E32.out _ hkl) ?_
        refine hK _ _ ?_; clear hK K
        refine wpAny_ready (rs := [2, 3]) (by kernel_rfl) (by simp) ?_
        refine AllReady.cons rfl (fun K hK => ?_) (AllReady.cons rfl (fun K hK => ?_) AllReady.nil)
        · go_simp
          go_at_call 12
          refine cd.mono ?_
          rintro e w5 ⟨rfl, b5⟩
          refine hK _ _ ?_; clear hK K
          have Y5 := bd.trans b5
          refine wpAny_ready (rs := [3]) (by kernel_rfl) (by simp) ?_
          refine AllReady.cons rfl (fun K hK => ?_) AllReady.nil
          go_simp
          refine hK _ _ ?_; clear hK K
          refine wpAny_ready (rs := [4]) (by kernel_rfl) (by simp) ?_
          refine AllReady.cons rfl (fun K hK => ?_) AllReady.nil
          refine step_put_row rfl 23 (.tmp 6) (.tmp 16) rfl w5.heap.size (rowOf T) rfl rfl 23 (rowOf (zbytes 16)) (Bk.new w5 _ _) (E16.out _ hTl) (by rw [rowOf_size, rowOf_size, hTl, zbytes_len]) (bytes_one _) ?_; intro W7 k7 g7 s7
          refine hK _ _ ?_; clear hK K
          refine wpAny_done (by kernel_rfl) ?_ _
          have Y7 := (Y5.alloc Y5.size (.cells (rowOf (zbytes 16)) 23)).grown g7 (by have := Y5.size; simp; omega) (fun i hi => by injection hi with hi; have := Y5.size; omega)
          have hfin := fin W7 w5.heap.size Y5.size Y7 k7
          go_wp2
          go_meet
          exact ⟨_, rfl, hfin⟩
        · go_simp
          refine hK _ _ ?_; clear hK K
          refine wpAny_ready (rs := [2]) (by kernel_rfl) (by simp) ?_
          refine AllReady.cons rfl (fun K hK => ?_) AllReady.nil
          go_simp
          go_at_call 12
          refine ca.mono ?_
          rintro e w5 ⟨rfl, b5⟩
          refine hK _ _ ?_; clear hK K
          have Y5 := ba.trans (b5.mono (by simp))
          have D5 := Da.below b5 Da.lt
          refine wpAny_ready (rs := [4]) (by kernel_rfl) (by simp) ?_
          refine AllReady.cons rfl (fun K hK => ?_) AllReady.nil
          refine step_put_row rfl 23 (.tmp 6) (.tmp 16) rfl wc.heap.size (rowOf T) rfl rfl 23 (rowOf (zbytes 16)) D5 (E16.out _ hTl) (by rw [rowOf_size, rowOf_size, hTl, zbytes_len]) (bytes_one _) ?_; intro W7 k7 g7 s7
          refine hK _ _ ?_; clear hK K
          refine wpAny_done (by kernel_rfl) ?_ _
          have Y7 := Y5.grown g7 Y5.size (fun i hi => by injection hi with hi; omega)
          have hfin := fin W7 wc.heap.size (Nat.le_refl _) Y7 k7
          go_wp2
          go_meet
          exact ⟨_, rfl, hfin⟩
      · go_simp
        refine hK _ _ ?_; clear hK K
        refine wpAny_ready (rs := [0]) (by kernel_rfl) (by simp) ?_
        refine AllReady.cons rfl (fun K hK => ?_) AllReady.nil
        refine step_load_row rfl 22 (.tmp 5) rfl (w.heap.size + 1 + 1) rfl 22 (rowOf (keyE e)) K2a _ Try.underlying22 rfl (E32.out _ hkl) ?_
        refine hK _ _ ?_; clear hK K
        refine wpAny_ready (rs := [2]) (by kernel_rfl) (by simp) ?_
        refine AllReady.cons rfl (fun K hK => ?_) AllReady.nil
        go_simp
        go_at_call 12
        refine ca.mono ?_
        rintro e w5 ⟨rfl, b5⟩
        refine hK _ _ ?_; clear hK K
        have Y5 := ba.trans (b5.mono (by simp))
        have D5 := Da.below b5 Da.lt
        refine wpAny_ready (rs := [4]) (by kernel_rfl) (by simp) ?_
        refine AllReady.cons rfl (fun K hK => ?_) AllReady.nil
        refine step_put_row rfl 23 (.tmp 6) (.tmp 16) rfl wc.heap.size (rowOf T) rfl rfl 23 (rowOf (zbytes 16)) D5 (E16.out _ hTl) (by rw [rowOf_size, rowOf_size, hTl, zbytes_len]) (bytes_one _) ?_; intro W7 k7 g7 s7
        refine hK _ _ ?_; clear hK K
        refine wpAny_done (by kernel_rfl) ?_ _
        have Y7 := Y5.grown g7 Y5.size (fun i hi => by injection hi with hi; omega)
        have hfin := fin W7 wc.heap.size (Nat.le_refl _) Y7 k7
        go_wp2
        go_meet
        exact ⟨_, rfl, hfin⟩
    case rest =>
      obtain ⟨D, rfl, hD, T3, E3, B3, X3⟩ := hcut
      clear ct K2 E2 B2 X2 hl3 hl4 hl5 ht1 HLA HF s1 s2 s3
      go_wp2
      go_loopw [7, 8] (fun o i wr => ∃ k : Nat, k ≤ 16 ∧ i = .int .i64 k ∧ o = .int .i64 ((carr b e k : Nat) : Int) ∧ Hid (Bk wr D 23 (rowOf T)) ∧ Hid (Bk wr (w.heap.size + 1) 23 (rowOf e)) ∧ Hid (Bk wr w.heap.size 23 (rowOf b)) ∧ Hid (Below w.heap.size w wr)) (fun _ i _ => 16 - (intOf i).toNat)
      case atStart => exact ⟨0, by omega, rfl, by simp [carr, leN, beN], T3, E3, B3, X3⟩
      case round =>
        obtain ⟨k, hk, rfl, rfl, T4, E4, B4, X4⟩ := hrel
        clear T3 E3 B3 X3
        by_cases hlt : k < 16
        · have cb := B4.out.cell k
          rw [rowOf_at _ _ (by rw [HBL.out]; exact hlt)] at cb
          have ce := E4.out.cell k
          rw [rowOf_at _ _ (by rw [HE.out]; exact hlt)] at ce
          have ct := T4.out.cell k
          rw [rowOf_at _ _ (by rw [hTl]; exact hlt)] at ct
          have hdg : (T.getD k 0).toNat = ((b.getD k 0).toNat + (e.getD k 0).toNat + carr b e k) % 256 := by
            rw [← hT.out, lowB_getD _ _ _ hlt, digit b e k (by rw [HBL.out]; exact hlt) (by rw [HE.out]; exact hlt)]
          have hcn := carr_next b e k (by rw [HBL.out]; exact hlt) (by rw [HE.out]; exact hlt)
          have hcl := carr_le b e k (by rw [HBL.out]; omega) (by rw [HE.out]; omega)
          have hx := (b.getD k 0).toNat_lt
          have hy := (e.getD k 0).toNat_lt
          obtain ⟨x, hxe⟩ : ∃ x, Hid ((b.getD k 0).toNat = x) := ⟨_, rfl⟩
          obtain ⟨y, hye⟩ : ∃ x, Hid ((e.getD k 0).toNat = x) := ⟨_, rfl⟩
          obtain ⟨o, hoe⟩ : ∃ x, Hid (carr b e k = x) := ⟨_, rfl⟩
          obtain ⟨z, hze⟩ : ∃ x, Hid ((T.getD k 0).toNat = x) := ⟨_, rfl⟩
          rw [hxe.out] at cb hdg hcn hx
          rw [hye.out] at ce hdg hcn hy
          rw [hoe.out] at hdg hcn hcl ⊢
          rw [hze.out] at ct hdg
          have HCN := hid_ hcn
          have t0 : (0 : Int) ≤ (k : Int) := by omega
          have t16 : (k : Int) < 16 := by omega
          have hw8 : IntKind.u8.wrap ((x : Int) + (y : Int) + (o : Int)) = (z : Int) := by
            have h : IntKind.u8.wrap ((x : Int) + (y : Int) + (o : Int)) = ((x : Int) + (y : Int) + (o : Int)) % 256 := by simp [IntKind.wrap, IntKind.signed, IntKind.bits]
            rw [h, hdg]; omega
          clear hcn hdg
          go_wp2
          go_quiet (fail)
          go_wp2
          exact ⟨⟨k + 1, by omega, by go_num, by rw [HCN.out]; congr 1, T4.out.drewN nq, E4.out.drewN nq, B4.out.drewN nq, below_drewN X4.out nq⟩, by simp [intOf]; omega⟩
        · go_wp2_with (go_at_call 13; ((with_reducible refine (tags_any _).mono ?_); rintro e w9 ⟨rfl, b9⟩))
          go_ret
          exact ⟨rfl, X4.out.trans (b9.mono X4.out.size)⟩

set_option maxRecDepth 100000 in
theorem lifted (os : Os) (started : os.Started) (H : Type) (enc : TypeId × Value → H) :
    ReturnsInHanded {} Try.checked os 6 .any (Rows.polyBlocksSpec.pre6 enc Try.prog Try.f6 Rows.polyBlocksRow.domain false) (Rows.polyBlocksSpec.post enc Try.prog Try.f6 false true false false) := by
  refine returnsInHanded_of_change (C := Try.checked) own_ started (by kernel_rfl) Try.func6
    (ChangeSpec.witness6 (enc := enc) (C := Try.checked) false ⟨#[], #[.agg (rowOf (zbytes 16)), .agg (rowOf (zbytes 16))], []⟩ 8 (by kernel_rfl) (by kernel_rfl) (by kernel_rfl) (by kernel_rfl)) ?_
  intro W base args ds gs before hval0 hW hcnd _
  have hval : ∀ (j : Nat) t v, Try.f6.params[j]? = some t → args[j]? = some v → Value.okWide Try.prog W .any base t v := hval0
  have hW' := hW
  obtain ⟨p, q, hA0, hV, rfl, hfz, hnd⟩ := hW
  have hA : DataW.TrodAll enc Try.prog W 0 (fun _ => true) true Try.f6.params.toList args.toList ds p := hA0
  rw [Try.params6] at hA hval
  obtain ⟨v0, vs0, d0, ds0, p0, q0, hargs, rfl, rfl, h0, r0⟩ := trodAll_cons hA
  obtain ⟨v1, vs1, d1, ds1, p1, q1, rfl, rfl, rfl, h1, r1⟩ := trodAll_cons r0
  obtain ⟨rfl, rfl, rfl⟩ := trodAll_nil r1
  obtain rfl : args = #[v0, v1] := by cases args; simp_all
  obtain ⟨rfl, rfl⟩ := trodVars_none hV
  obtain ⟨l0, rfl, hl0⟩ := open_arr8 Try.underlying23 Try.underlying5 (by kernel_rfl) (by kernel_rfl) (hval 0 23 v0 rfl rfl) h0
  obtain ⟨l1, rfl, hl1⟩ := open_arr8 Try.underlying23 Try.underlying5 (by kernel_rfl) (by kernel_rfl) (hval 1 23 v1 rfl rfl) h1
  refine (walk l0 l1 W hl0 hl1).mono fun e W' ⟨he, hg⟩ => ⟨_, he, ?_⟩
  exact law_post laidOut_ (of_decide_eq_true (by kernel_rfl)) rfl rfl Try.underlying4 rfl hW' hg

theorem over : Rows.polyBlocksRow.holds Try.pinned (OpenSpec.ofChange Rows.polyBlocksSpec) :=
  OpenClaim.holds_of_wide 6 Try.f6 rfl rfl rfl rfl rfl rfl rfl ⟨rfl, rfl, rfl, rfl, rfl⟩ rfl rfl rfl rfl rfl (by kernel_rfl) Try.func6 (by kernel_rfl)
    (of_decide_eq_true (by kernel_rfl)) (by unfold Func.isWrapper; first | (rw [if_pos (by decide +kernel)]; kernel_rfl) | (rw [if_neg (by decide +kernel)]; exact ⟨rfl, rfl⟩))
    (fun os started H enc _ => lifted os started H enc)

theorem proved : Rows.PolyBlocksSaid := over
#print axioms proved
end Go.Proofs.Ytmiaeddgacgpfab.polyBlocks
