/-
  Proved: for all masters, uses and texts CasketSeals answers true: what is sealed by a key that comes out of another one is the stream's bytes, and a tag by the stream's first block. No condition.
-/
import Derived.Test.YtengjagahhfjoaaDoorTo
namespace Go.Proofs.YtengjagahhfjoaaDoor.casketSeals
open Go.ChangeShapes Go.WideShapes Go.ChangeAt Go.RowKit
set_option linter.unusedVariables false
set_option linter.unusedSimpArgs false

theorem hid_ {p : Prop} (h : p) : Hid p := h

set_option maxRecDepth 100000 in
set_option maxHeartbeats 8000000 in
theorem walk (w : World) (A9 : Option Addr) (l9 : List UInt8) (c9 : Nat) (hr9 : Rd w w.heap.size A9 l9) (hlc9 : l9.length ≤ c9) (hcm9 : c9 ≤ 9223372036854775807) (u : UInt8)
    (A8 : Option Addr) (l8 : List UInt8) (c8 : Nat) (hr8 : Rd w w.heap.size A8 l8) (hlc8 : l8.length ≤ c8) (hcm8 : c8 ≤ 9223372036854775807) (ht : Tab w) (hg1 : 0 < w.heap.size) :
    Calls Tryd.prog 3 #[.slice A9 l9.length c9, .int .u8 ((u.toNat : Nat) : Int), .slice A8 l8.length c8] w fun e w' => e = .returned (.bool true) ∧ Below w.heap.size w w' := by
  have hz := z32
  have hz64 := zb64
  have hz16 := z16
  have hat := fun (A : Option Addr) (c : Nat) (W : World) => run_arrayAt (P := Tryd.prog) W 28 5 32 A 32 c Tryd.underlying28 (Nat.le_refl _)
  have hat2 := arr32_at
  have hs64 := sl64_32
  have hs16 := sl16_all
  obtain ⟨m9, hm9⟩ : ∃ m, m = min l9.length 60 := ⟨_, rfl⟩
  obtain ⟨nb, hnb⟩ : ∃ m, m = min l8.length 120 := ⟨_, rfl⟩
  have c1 : Calls Tryd.prog 5 #[.slice A9 l9.length c9, .int .i64 60] w (NewP w m9 (l9.take 60)) := topcut_any w A9 l9 l9.length c9 60 m9 rfl hm9 (by omega) hr9 hlc9 hcm9
  have M9 := hid_ (show (l9.take 60).length = m9 by rw [List.length_take, hm9, Nat.min_comm])
  have MB := hid_ (show (l8.take 120).length = nb by rw [List.length_take, hnb, Nat.min_comm])
  have b9 : m9 ≤ 60 := by omega
  have bnb : nb ≤ 120 := by omega
  have c5 := fun W (hr : Rd W W.heap.size A8 l8) => (show Calls Tryd.prog 5 #[.slice A8 l8.length c8, .int .i64 120] W (NewP W nb (l8.take 120)) from topcut_any W A8 l8 l8.length c8 120 nb rfl hnb (by omega) hr hlc8 hcm8)
  have R8 := hid_ hr8
  have HT := hid_ ht
  obtain ⟨K, hK⟩ : ∃ K, expandB (l9.take 60) [u] 32 = K := ⟨_, rfl⟩
  have KL := hid_ (show K.length = 32 by rw [← hK]; exact expandB_len _ _ _ (by omega))
  have HK := hid_ hK
  obtain ⟨No, hNo⟩ : ∃ No : List UInt8, u :: zbytes 11 = No := ⟨_, rfl⟩
  have NL := hid_ (show No.length = 12 by rw [← hNo]; rfl)
  have HBL := hid_ hNo
  have IK := hid_ (ib32 K KL.out)
  have QK := hid_ (show (rowOf (zbytes 32)).size = (rowOf K).size by rw [rowOf_size, rowOf_size, KL.out, zbytes_len])
  have IN := hid_ (ib12 No NL.out)
  have QN := hid_ (show (rowOf (zbytes 12)).size = (rowOf No).size by rw [rowOf_size, rowOf_size, NL.out, zbytes_len])
  have hz12 : ∀ W : World, (zeroValue 29).run Tryd.prog W = .ok (.agg (rowOf (zbytes 12))) W := fun W => by kernel_rfl
  clear hr9 hr8 hlc9 hlc8 hm9 hnb ht hK hNo
  generalize l9.take 60 = t at *
  generalize hb8 : l8.take 120 = b at *
  clear hb8
  generalize l9.length = n9 at *
  go_enter Tryd.func3, Tryd.ntmps3
  go_upto_region 7 with (first
    | (go_at_call 5; ((with_reducible refine c1.mono ?_); clear c1; rintro e w1 ⟨A1, k1, rfl, ho, hb⟩; have O1 := hid_ ho; have X1 := hid_ hb; clear ho hb; have hbu := (Below.refl w1.heap.size w1).alloc (Nat.le_refl _) (.cells #[.int .u8 ((u.toNat : Nat) : Int)] 5); have X2 := hid_ (X1.out.trans (hbu.mono X1.out.size)); have RU := hid_ ((Blk8.new w1 [u]).rd (Blk8.new w1 [u]).lt); rw [show rowOf [u] = #[Value.int .u8 ((u.toNat : Nat) : Int)] from rfl] at RU; have RT := hid_ ((O1.out.rd.1.below hbu).more hbu.size); clear hbu))
    | (go_at_call 4; have cx : Calls Tryd.prog 4 #[.slice A1 m9 k1, .slice (some ⟨w1.heap.size, 0, none⟩) 1 1, .int .i64 32] (w1.alloc (.cells #[.int .u8 ((u.toNat : Nat) : Int)] 5)) (ExpP (w1.alloc (.cells #[.int .u8 ((u.toNat : Nat) : Int)] 5)) (expandB t [u] 32)) := expand_any _ A1 m9 k1 t M9.out (by omega) O1.out.cap.1 O1.out.cap.2 RT.out (some ⟨w1.heap.size, 0, none⟩) 1 1 [u] rfl (by omega) (Nat.le_refl _) (by omega) RU.out 32 (by omega) (fun t h => (X2.out.cell (p := ⟨_, t, none⟩) hg1).trans (HT.out t h)) (Nat.lt_of_lt_of_le hg1 X2.out.size); rw [HK.out] at cx; ((with_reducible refine cx.mono ?_); clear cx; rintro e w3 ⟨A3, k3, rfl, ho, hb⟩; rw [KL.out] at ho ⊢; obtain ⟨g3, rfl⟩ := ho.block_ (by omega); have O3 := hid_ ho; have X3 := hid_ (X2.out.trans (hb.mono X2.out.size)); clear ho hb O1 X1 RU RT))
    | (go_at_call 6; have cx := stands_any w3 (fun t h => (X3.out.cell (p := ⟨_, t, none⟩) hg1).trans (HT.out t h)) (Nat.lt_of_lt_of_le hg1 X3.out.size); ((with_reducible refine cx.mono ?_); clear cx; rintro e w4 ⟨rfl, hb⟩; have O4 := hid_ (O3.out.below hb (Nat.le_refl _)); have X4 := hid_ (X3.out.trans (hb.mono X3.out.size)); have C4 := hid_ (fun j (hj : j < (rowOf K).size) => (show w4.cell? ⟨g3, 0 + j, none⟩ = (rowOf K)[j]? by rw [rowOf_size] at hj; rw [Nat.zero_add, O4.out.cellz j (by rw [KL.out] at hj; exact hj), rowOf_at _ _ hj])); clear hb))
    | (refine wpList_load_sub rfl 28 (.tmp 38) rfl g3 0 rfl (rowOf K) C4.out _ Tryd.underlying28 rfl IK.out ?_)
    | (refine wpList_put_row rfl 28 _ _ rfl w4.heap.size (rowOf K) rfl rfl 28 (rowOf (zbytes 32)) (Bk.new w4 _ _) IK.out QK.out (bytes_one _) ?_; intro w5 k5 g5 s5; have BX : Below w4.heap.size w4 w5 := (((Below.refl w4.heap.size w4).alloc (Nat.le_refl _) (.cells (rowOf (zbytes 32)) 28)).grown g5 (by simp) (fun k hk => by injection hk with hk; omega)); have K5 := hid_ k5; have X5 := hid_ (X4.out.trans (BX.mono X4.out.size)); clear k5 g5 s5 BX)
    | (go_at_call 5; have cx := c5 w5 ((R8.out.below X5.out).more X5.out.size); ((with_reducible refine cx.mono ?_); clear cx c5; rintro e w6 ⟨B, cb, rfl, ho, hb⟩; have O6 := hid_ ho; have K6 := hid_ (K5.out.below hb K5.out.lt); have X6 := hid_ (X5.out.trans (hb.mono X5.out.size)); clear ho hb))
    | (refine wpList_built rfl 29 _ rfl (rowOf (u :: zbytes 11)) (by kernel_rfl) ?_; rw [HBL.out])
    | (refine wpList_put_row rfl 29 _ _ rfl w6.heap.size (rowOf No) rfl rfl 29 (rowOf (zbytes 12)) (Bk.new w6 _ _) IN.out QN.out (bytes_one _) ?_; intro w7 k7 g7 s7; have BX : Below w6.heap.size w6 w7 := (((Below.refl w6.heap.size w6).alloc (Nat.le_refl _) (.cells (rowOf (zbytes 12)) 29)).grown g7 (by simp) (fun k hk => by injection hk with hk; omega)); have C7 := hid_ (show CsC w w4.heap.size w6.heap.size K No B b w7 from ⟨K6.out.below BX K6.out.lt, k7, (O6.out.rd.1.below BX).more BX.size, X6.out.trans (BX.mono X6.out.size)⟩); have CB := hid_ O6.out.cap; clear k7 g7 s7 BX))
  generalize w4.heap.size = gk at *
  generalize w6.heap.size = gn at *
  clear O3 X3 O4 X4 C4 K5 X5 K6 O6 X6 X2 HT R8 HBL
  obtain ⟨cb1, cb2⟩ := CB.out
  have SL := hid_ (show (sealB K No [] b).length = nb + 16 by rw [sealB_len, MB.out])
  have SO := hid_ (seal_opens K No [] b nb MB.out)
  have SB := hid_ (seal_back K No [] b nb MB.out)
  have SE := hid_ (show sealB K No [] b = streamB K No 1 b ++ polyTag ((blockB K 0 No).take 32) (msgB [] (streamB K No 1 b)) from rfl)
  have CL := hid_ (show (streamB K No 1 b).length = nb by rw [streamB_len, MB.out])
  have FL := hid_ (blockB_len K 0 No)
  have csl := seal_any K No none 0 0 [] B nb cb b w7 KL.out NL.out rfl MB.out Rd.nil C7.out.text cb1 cb2 (by omega) (by omega)
  have cst := fun W hr => stream_any K No 1 B nb cb b W KL.out NL.out ok32_one MB.out hr cb1 cb2 (by omega)
  have cbl := fun W => block_anyq K No 0 W KL.out NL.out ok32_zeroq
  obtain ⟨S, hS⟩ : ∃ S, sealB K No [] b = S := ⟨_, rfl⟩
  obtain ⟨Sm, hSm⟩ : ∃ S, streamB K No 1 b = S := ⟨_, rfl⟩
  obtain ⟨F, hF⟩ : ∃ S, blockB K 0 No = S := ⟨_, rfl⟩
  rw [hS] at csl SL SO SB SE
  rw [hSm] at cst SE CL
  rw [hF] at cbl SE FL
  have IF := hid_ (ib64 F FL.out)
  have QF := hid_ (show (rowOf (zbytes 64)).size = (rowOf F).size by rw [rowOf_size, rowOf_size, FL.out, zbytes_len])
  clear hS hSm hF
  go_upto_region 10 with (first
    | (refine wpList_load_row rfl 28 (.tmp 9) rfl gk rfl 28 (rowOf K) (0, 0) _ C7.out.key Tryd.underlying28 rfl IK.out ?_)
    | (refine wpList_load_row rfl 29 (.tmp 10) rfl gn rfl 29 (rowOf No) (0, 0) _ C7.out.nonce Tryd.underlying29 rfl IN.out ?_)
    | (go_at_call 7; ((with_reducible refine csl.mono ?_); clear csl; rintro e w8 ⟨As, ks, rfl, ho, hb⟩; have O8 := hid_ ho; have C8 := hid_ (C7.out.keep hb); clear ho hb))
    | (refine wpList_load_row rfl 28 (.tmp 9) rfl gk rfl 28 (rowOf K) (0, 0) _ C8.out.key Tryd.underlying28 rfl IK.out ?_)
    | (refine wpList_load_row rfl 29 (.tmp 10) rfl gn rfl 29 (rowOf No) (0, 0) _ C8.out.nonce Tryd.underlying29 rfl IN.out ?_)
    | (go_at_call 8; have cx := cst w8 C8.out.text; ((with_reducible refine cx.mono ?_); clear cx cst; rintro e w9 ⟨Ac, kc, rfl, ho, hb⟩; have O9 := hid_ ho; have O89 := hid_ (O8.out.below hb (Nat.le_refl _)); have C9 := hid_ (C8.out.keep hb); clear ho hb))
    | (refine wpList_load_row rfl 28 (.tmp 9) rfl gk rfl 28 (rowOf K) (0, 0) _ C9.out.key Tryd.underlying28 rfl IK.out ?_)
    | (refine wpList_load_row rfl 29 (.tmp 10) rfl gn rfl 29 (rowOf No) (0, 0) _ C9.out.nonce Tryd.underlying29 rfl IN.out ?_)
    | (go_at_call 9; ((with_reducible refine (cbl _).mono ?_); clear cbl; rintro e w10 ⟨rfl, hb⟩; have O9x := hid_ (O9.out.below hb (Nat.le_refl _)); have O8x := hid_ (O89.out.below hb (Nat.le_refl _)); have C10 := hid_ (C9.out.keep hb); clear hb))
    | (refine wpList_put_row rfl 33 _ _ rfl w10.heap.size (rowOf F) rfl rfl 33 (rowOf (zbytes 64)) (Bk.new w10 _ _) IF.out QF.out (bytes_one _) ?_; intro w11 k11 g11 s11; have BX : Below w10.heap.size w10 w11 := (((Below.refl w10.heap.size w10).alloc (Nat.le_refl _) (.cells (rowOf (zbytes 64)) 33)).grown g11 (by simp) (fun k hk => by injection hk with hk; omega)); have D11 := hid_ (show CsD w gk gn w10.heap.size K No B b As S Ac Sm F w11 from ⟨C10.out.keep BX, (O8x.out.rd.1.below BX).more BX.size, (O9x.out.rd.1.below BX).more BX.size, k11⟩); have CS := hid_ O8x.out.cap; have CC := hid_ O9x.out.cap; clear k11 g11 s11 BX))
  generalize w10.heap.size = gf at *
  clear C7 O8 C8 O9 O89 C9 O9x O8x C10
  obtain ⟨cs1, cs2⟩ := CS.out
  obtain ⟨cc1, cc2⟩ := CC.out
  obtain ⟨q, hq⟩ : ∃ q, w11.heap.size = q := ⟨_, rfl⟩
  obtain ⟨w12, hw12⟩ : ∃ w12, w11.alloc (.cells #[] 5) = w12 := ⟨_, rfl⟩
  have b12 : Below q w11 w12 := by rw [← hw12, ← hq]; exact (Below.refl _ _).alloc (Nat.le_refl _) _
  have hown : Own8 w12 q (.slice (some ⟨q, 0, none⟩) 0 0) [] := by
    have h := Own8.lit w11 w11.heap.size [] (Nat.le_refl _) (Nat.zero_le _)
    rw [show rowOf [] = #[] from rfl, hw12, hq] at h
    exact h
  have hwal := hid_ b12
  have s12 : w12.heap.size = q + 1 := by rw [← hw12]; simp [hq]
  have HQ := hid_ hq
  have hrt : Rd w12 q Ac Sm := (hq ▸ D11.out.stream).below b12
  have hle0 : ([] : List UInt8).length + nb ≤ 140737488355328 := by simp; omega
  have hsz0 : q ≤ w12.heap.size := by omega
  clear b12
  go_upto_region 11 with (at_builtin; refine wpList_app rfl (.tmp 55) (.tmp 56) rfl hown rfl nb kc rfl hrt CL.out hle0 hsz0 ?_; (intro A0 c0 w13 k1 k2 k3; have O13 := hid_ (show Own8 w13 q (.slice A0 nb c0) Sm by simpa using k1); have X13 := hid_ (hwal.out.grown k2 hsz0 (fun k hk => by simp [Value.ownBlock] at hk; omega)); clear k1 k2 k3 hrt hown))
  clear hwal hle0 hsz0 hw12 s12 hq
  have SML := hid_ CL.out
  go_loopw [14] (fun v14 wr => ∃ j : Nat, j ≤ fillN nb ∧ Hid (Own8 wr q v14 (Sm ++ zbytes j)) ∧ Hid (Below q w11 wr)) (fun v14 _ => nb + 20 - lenTop v14)
  case atStart => exact ⟨0, Nat.zero_le _, hid_ (by simpa [zbytes] using O13.out), X13⟩
  case round =>
    obtain ⟨j, hj, HO, HB⟩ := hrel
    clear O13 X13
    obtain ⟨A1, k1, rfl, -⟩ := HO.out.form
    obtain ⟨p, hp⟩ : ∃ p, nb + j = p := ⟨_, rfl⟩
    have PL := hid_ (show (Sm ++ zbytes j).length = p by rw [List.length_append, SML.out, zbytes_len, hp])
    have HO2 : Hid (Own8 wr q (.slice A1 p k1) (Sm ++ zbytes j)) := hid_ (by have h := HO.out; rw [PL.out] at h; exact h)
    rw [PL.out]
    clear HO
    have hj16 : j ≤ 15 := by unfold fillN at hj; omega
    have hqw : q ≤ wr.heap.size := by have := HB.out.size; have := HQ.out; omega
    obtain ⟨m, hm⟩ : ∃ m, p % 16 = m := ⟨_, rfl⟩
    have r1 : (p : Int).tmod 16 = (m : Int) := by rw [Int.tmod_eq_emod_of_nonneg (by omega)]; omega
    have r2 : (p : Int) % 16 = (m : Int) := by omega
    have r3 : IntKind.i64.wrap (m : Int) = (m : Int) := IntWalk.i64_in _ (by omega)
    have HPN := hid_ (show p ≤ nb + 15 by omega)
    have hp200 : p ≤ 200 := by omega
    have HPL2 := hid_ (show (Sm ++ zbytes j).length + 1 ≤ 140737488355328 by rw [PL.out]; omega)
    have HPL8 := hid_ (show (Sm ++ zbytes j).length + 8 ≤ 140737488355328 by rw [PL.out]; omega)
    by_cases h0 : m = 0
    · subst h0
      have r4 : (p : Int).tmod 16 = 0 := r1
      have r5 : (p : Int) % 16 = 0 := by omega
      obtain rfl : j = fillN nb := by unfold fillN at hj ⊢; omega
      have hb2 : IntKind.u64.wrap (nb : Int) = (nb : Int) := IntWalk.u64_in _ (by omega)
      have cpl := fun W => putLow_any nb 8 8 (by omega) (by omega) (by omega) (.inr (.inl ⟨by omega, by omega, rfl⟩)) W
      have LL8 := hid_ (lowB_len 8 nb)
      have HM := hid_ (msg_nil Sm nb SML.out)
      have ZL := hid_ (show (Sm ++ zbytes (fillN nb) ++ List.replicate 8 0).length = p + 8 by rw [List.length_append, PL.out]; rfl)
      clear hm r1 r2 r3 hp hj
      go_upto_if 61 with fail
      clear r4 r5
      go_upto_region 14 with (first
        | (at_builtin; refine wpList_appZ rfl (.tmp 65) _ rfl HO2.out rfl 8 rfl HPL8.out hqw ?_; (intro A2 k2 w14 h1 h2 h3; rw [PL.out] at h1 ⊢; have O14 := hid_ h1; have X14 := hid_ (HB.out.grown h2 hqw (fun k hk => (World.ownsRow.lt HO2.out k hk).1)); clear h1 h2 h3))
        | (go_at_call 10; ((with_reducible refine (cpl _).mono ?_); clear cpl; rintro e w15 ⟨rfl, he⟩; have hbk : Blk8 w15 w14.heap.size (lowB 8 nb) := (he ▸ Blk8.new w14 _); have hb : Below w14.heap.size w14 w15 := (he ▸ (Below.refl _ _).alloc (Nat.le_refl _) _); clear he; have O15 := hid_ (O14.out.below hb (Nat.le_refl _)); have X15 := hid_ (X14.out.trans (hb.mono (by have := X14.out.size; have := HQ.out; omega))); have P15 := hid_ (hbk.rd hbk.lt); have hqw15 : q ≤ w15.heap.size := (by have := X15.out.size; have := HQ.out; omega); clear hbk hb))
        | (at_builtin; refine wpList_app rfl (.tmp 66) (.tmp 70) rfl O15.out rfl 8 8 rfl P15.out LL8.out (by rw [ZL.out]; omega) hqw15 ?_; (intro A3 k3 w16 h1 h2 h3; rw [ZL.out] at h1 ⊢; rw [← HM.out] at h1; have O16 := hid_ h1; have D16 := hid_ (D11.out.keep (HQ.out ▸ (X15.out.grown h2 hqw15 (fun k hk => (World.ownsRow.lt O15.out k hk).1)))); clear h1 h2 h3)))
      have ML := hid_ (show (msgB [] Sm).length = p + 8 + 8 by rw [HM.out, List.length_append, ZL.out, LL8.out])
      obtain ⟨N, hN⟩ : ∃ N, p + 8 + 8 = N := ⟨_, rfl⟩
      rw [hN] at ML O16 ⊢
      have hcap := hid_ O16.out.cap
      obtain ⟨hc1, hc2⟩ := hcap.out
      have F32 := hid_ (show (F.take 32).length = 32 by rw [List.length_take, FL.out]; rfl)
      have IF32 := hid_ (ib32 (F.take 32) F32.out)
      have CF := hid_ (fun j (hj : j < (rowOf (F.take 32)).size) => (show w16.cell? ⟨gf, 0 + j, none⟩ = (rowOf (F.take 32))[j]? by
        rw [rowOf_size, F32.out] at hj
        rw [Nat.zero_add, D16.out.first.cell j, rowOf_at _ _ (by rw [FL.out]; omega), rowOf_at _ _ (by rw [F32.out]; exact hj)]
        simp only [List.getD, List.getElem?_take_of_lt hj]))
      have ct := tag_any (F.take 32) A3 N k3 (msgB [] Sm) w16 F32.out ML.out hc1 hc2 O16.out.rd.1
      have TL := hid_ (polyTag_len (F.take 32) (msgB [] Sm))
      obtain ⟨T, hT⟩ : ∃ T, polyTag (F.take 32) (msgB [] Sm) = T := ⟨_, rfl⟩
      rw [hT] at ct TL SE
      have IT := hid_ (show (Tryd.prog.info? 37).map (·.size) = some (rowOf T).size by rw [rowOf_size, TL.out]; exact i16_)
      have QT := hid_ (show (rowOf (zbytes 16)).size = (rowOf T).size by rw [rowOf_size, rowOf_size, TL.out, zbytes_len])
      generalize F.take 32 = F3 at *
      clear hT hN HM ZL hcap O14 X14 O15 X15 P15
      go_upto_region 16 with (first
        | (refine wpList_load_sub rfl 28 (.tmp 73) rfl gf 0 rfl (rowOf F3) CF.out _ Tryd.underlying28 rfl IF32.out ?_)
        | (go_at_call 11; ((with_reducible refine ct.mono ?_); clear ct; rintro e w17 ⟨rfl, hb⟩; have D17 := hid_ (D16.out.keep hb); clear hb))
        | (refine wpList_put_row rfl 37 _ _ rfl w17.heap.size (rowOf T) rfl rfl 37 (rowOf (zbytes 16)) (Bk.new w17 _ _) IT.out QT.out (bytes_one _) ?_; intro w18 k18 g18 s18; have BX : Below w17.heap.size w17 w18 := (((Below.refl w17.heap.size w17).alloc (Nat.le_refl _) (.cells (rowOf (zbytes 16)) 37)).grown g18 (by simp) (fun k hk => by injection hk with hk; omega)); have T18 := hid_ k18; have D18 := hid_ (D17.out.keep BX); clear k18 g18 s18 BX)
        | (refine wpList_load_row rfl 28 (.tmp 9) rfl gk rfl 28 (rowOf K) (0, 0) _ D18.out.base.key Tryd.underlying28 rfl IK.out ?_)
        | (refine wpList_load_row rfl 29 (.tmp 10) rfl gn rfl 29 (rowOf No) (0, 0) _ D18.out.base.nonce Tryd.underlying29 rfl IN.out ?_)
        | (go_at_call 12; have co := aopen_yes K No none 0 0 [] As nb ks S w18 KL.out NL.out rfl SL.out Rd.nil D18.out.seal_ cs1 cs2 (by omega) (by omega) SO.out; rw [SB.out] at co; ((with_reducible refine co.mono ?_); clear co; rintro e w19 ⟨A9', k9', rfl, ho, hb⟩; have O19 := hid_ ho; have D19 := hid_ (D18.out.keep hb); have T19 := hid_ (T18.out.below hb T18.out.lt); clear ho hb)))
      generalize w17.heap.size = gt at *
      have V1 : Hid (∀ W : World, Below w19.heap.size w19 W → (convert 22 9 (.slice As (nb + 16) ks)).run Tryd.prog W = .ok (.string (strOf S)) W) := hid_ (fun W h => conv_strn (D19.out.seal_.below h) (nb + 16) ks SL.out)
      have V2 : Hid (∀ W : World, Below w19.heap.size w19 W → (convert 22 9 (.slice Ac nb kc)).run Tryd.prog W = .ok (.string (strOf Sm)) W) := hid_ (fun W h => conv_strn (D19.out.stream.below h) nb kc SML.out)
      have V3 : Hid (∀ W : World, Below w19.heap.size w19 W → (convert 22 9 (.slice (some ⟨gt, 0, none⟩) 16 16)).run Tryd.prog W = .ok (.string (strOf T)) W) := hid_ (fun W h => conv_strn ((T19.out.rd T19.out.lt).below h) 16 16 TL.out)
      have V4 : Hid (∀ W : World, Below w19.heap.size w19 W → (convert 22 9 (.slice A9' nb k9')).run Tryd.prog W = .ok (.string (strOf b)) W) := hid_ (fun W h => conv_strn (O19.out.rd.1.below h) nb k9' MB.out)
      have V5 : Hid (∀ W : World, Below w19.heap.size w19 W → (convert 22 9 (.slice B nb cb)).run Tryd.prog W = .ok (.string (strOf b)) W) := hid_ (fun W h => conv_strn (D19.out.base.text.below h) nb cb MB.out)
      have hap : strOf Sm ++ strOf T = strOf S := by rw [SE.out]; exact strOf_append Sm T
      have hsz : (strOf Sm).size + (strOf T).size ≤ 9223372036854775807 := by rw [strOf_size, strOf_size, SML.out, TL.out]; omega
      have qS := strOf_eq S S rfl
      have qb := strOf_eq b b rfl
      clear SE SO SB
      refine region_quiet_in (C := fun W => Below w19.heap.size w19 W) (by kernel_rfl) (by kernel_rfl) ((Below.refl _ _).drew) ?_
      repeat (first | go_big_quiet_skip | (go_big_quiet_want; (first
        | (refine BigFrame.quiet_move _ rfl ?_; go_simp)
        | (refine BigFrame.quiet_assign _ rfl ?_; go_simp)
        | (refine quiet_run (.slice (some ⟨gt, 0, none⟩) 16 16) ?_ ?_; (focus (intro W hW; have h := hs16 gt W; go_simp; done)); go_simp)
        | (refine quiet_run (.string (strOf S)) ?_ ?_; (focus (intro W hW; have h := V1.out W hW; go_simp; done)); go_simp)
        | (refine quiet_run (.string (strOf Sm)) ?_ ?_; (focus (intro W hW; have h := V2.out W hW; go_simp; done)); go_simp)
        | (refine quiet_run (.string (strOf T)) ?_ ?_; (focus (intro W hW; have h := V3.out W hW; go_simp; done)); go_simp)
        | (refine quiet_run (.string (strOf b)) ?_ ?_; (focus (intro W hW; have h := V4.out W hW; have h5 := V5.out W hW; go_simp; done)); go_simp)
        | (refine quiet_run (.bool true) ?_ ?_; (focus (intro W hW; go_simp; done)); go_simp)); go_big_quiet_on))
      refine wpQuiet_nil ?_
      intro w20 hw20
      have X20 := hid_ (D19.out.base.keep hw20).below
      clear hw20 V1 V2 V3 V4 V5
      go_wp2
      go_ret
      exact ⟨rfl, X20.out⟩
    · have HJ := hid_ (show j + 1 ≤ fillN nb by unfold fillN at hj ⊢; omega)
      have hmi : ((m : Int) == 0) = false := by simp; omega
      have hmn : ¬ ((m : Int) = 0) := by omega
      have hmb : ((m : Int) != 0) = true := by simpa using hmn
      have hmc : (m != 0) = true := by simpa using h0
      have hmd : (m == 0) = false := by simpa using h0
      clear hm hp
      have hbn := (Blk8.new wr [0])
      have hrd := hid_ (hbn.rd hbn.lt)
      rw [show rowOf [0] = #[Value.int .u8 0] from rfl] at hrd
      have hoa := hid_ (HO2.out.alloc (.cells #[Value.int .u8 0] 5))
      have hba := hid_ (HB.out.alloc hqw (.cells #[Value.int .u8 0] 5))
      have hqa : q ≤ (wr.alloc (.cells #[Value.int .u8 0] 5)).heap.size := by simp; omega
      clear hbn
      go_wp2_with (at_builtin; refine wpList_app rfl (.tmp 62) (.tmp 63) rfl hoa.out rfl 1 1 rfl hrd.out rfl HPL2.out hqa ?_; (intro A2 k2 w14 h1 h2 h3; rw [PL.out] at h1 ⊢; rw [List.append_assoc, zbytes_snoc] at h1; have O14 := hid_ h1; have X14 := hid_ (hba.out.grown h2 hqa (fun k hk => (World.ownsRow.lt hoa.out k hk).1)); clear h1 h2 h3))
      go_roundw
      case rel => exact ⟨j + 1, HJ.out, O14, X14⟩
      case measure => simp [lenTop]; have := HPN.out; omega

theorem laid_met3 (os : Os) : laidMet Tryd.prog [("casket/sha2.roundWords", Rows.laid_casket_sha2_roundWords)] ((laidWorld os).forCall (fun _ _ => 0) ⟨#[], #[.slice none 0 0, .int .u8 0, .slice none 0 0], []⟩).memory :=
  laidMet_of_run' 8 (by kernel_rfl) (by kernel_rfl)

/-- What the walk gives, for every argument and every world in which the constants lie. -/
theorem contract (H : Type) (enc : TypeId × Value → H) (W : World) (base : Nat) (args : Array Value) (ds gs : List (DataW H)) (before : List MemPlace)
    (hval : ∀ (j : Nat) t v, Tryd.f3.params[j]? = some t → args[j]? = some v → Value.okWide Tryd.prog W .any base t v)
    (hW : DataW.Whole enc Tryd.prog Tryd.f3.params.toList Rows.casketSealsSpec.vars false W args.toList ds gs before) (hL : laidMetH Tryd.prog Rows.casketSealsRow.laid W) :
    Calls Tryd.prog 3 args W fun e W' => ∃ v, e = .returned v ∧ Rows.casketSealsSpec.post enc Tryd.prog Tryd.f3 false true false false W args v W' := by
  obtain ⟨ht, hg1⟩ := tab_of hL
  have hW' := hW
  obtain ⟨p, q, hA0, hV, rfl, hfz, hnd⟩ := hW
  have hA : DataW.TrodAll enc Tryd.prog W 0 (fun _ => true) true Tryd.f3.params.toList args.toList ds p := hA0
  rw [Tryd.params3] at hA hval
  obtain ⟨v0, vs0, d0, ds0, p0, q0, hargs, rfl, rfl, h0, r0⟩ := trodAll_cons hA
  obtain ⟨v1, vs1, d1, ds1, p1, q1, rfl, rfl, rfl, h1, r1⟩ := trodAll_cons r0
  obtain ⟨v2, vs2, d2, ds2, p2, q2, rfl, rfl, rfl, h2, r2⟩ := trodAll_cons r1
  obtain ⟨rfl, rfl, rfl⟩ := trodAll_nil r2
  obtain rfl : args = #[v0, v1, v2] := by cases args; simp_all
  obtain ⟨rfl, rfl⟩ := trodVars_none hV
  obtain ⟨A0, l0, c0, rfl, hr0, hlc0, hcm0⟩ := open_bytes Tryd.underlying22 Tryd.underlying5 (by kernel_rfl) (hval 0 22 v0 rfl rfl) h0
  obtain ⟨u, rfl⟩ := open_u8 Tryd.underlying5 (hval 1 5 v1 rfl rfl) h1
  obtain ⟨A2, l2, c2, rfl, hr2, hlc2, hcm2⟩ := open_bytes Tryd.underlying22 Tryd.underlying5 (by kernel_rfl) (hval 2 22 v2 rfl rfl) h2
  refine (walk W A0 l0 c0 hr0 hlc0 (by unfold maxLen at hcm0; omega) u A2 l2 c2 hr2 hlc2 (by unfold maxLen at hcm2; omega) ht hg1).mono fun e W' ⟨he, hg⟩ => ⟨_, he, ?_⟩
  exact law_post laidOut_ (of_decide_eq_true (by kernel_rfl)) rfl rfl Tryd.underlying4 rfl hW' hg

theorem reads (os : Os) {H : Type} (enc : TypeId × Value → H) : ∃ places, DataW.whole enc Tryd.prog ((laidWorld os).forCall (fun _ _ => 0) ⟨#[], #[.slice none 0 0, .int .u8 0, .slice none 0 0], []⟩).memory Tryd.f3.params.toList Rows.casketSealsSpec.vars false #[Value.slice none 0 0, Value.int .u8 0, Value.slice none 0 0].toList 8 = some ([.nil, .lit (.int .u8 0), .nil], [], places) :=
  ⟨[], by kernel_rfl⟩

set_option maxRecDepth 100000 in
theorem lifted (os : Os) (started : os.Started) (H : Type) (enc : TypeId × Value → H) (F : Stop.Interp) :
    ReturnsInHanded {} Tryd.checked os 3 .any ((OpenSpec.ofChange Rows.casketSealsSpec).preRow enc Tryd.prog Tryd.f3 Rows.casketSealsRow.domain false Rows.casketSealsRow.laid) (((OpenSpec.ofChange Rows.casketSealsSpec).at F).post enc Tryd.prog Tryd.f3 false true false false) := by
  obtain ⟨places, hx⟩ := reads os enc
  refine returnsInHanded_of_row (C := Tryd.checked) (s := OpenSpec.ofChange Rows.casketSealsSpec) own_ started (by kernel_rfl) Tryd.func3
    (witness_row_at (enc := enc) (C := Tryd.checked) false (laidWorld os) #[.slice none 0 0, .int .u8 0, .slice none 0 0] rfl (by kernel_rfl) (by kernel_rfl) (by kernel_rfl)
      (OpenSpec.preRow_of_cond 8 hx (by kernel_rfl) (fun k hk => by cases hk) (by kernel_rfl) (laid_met3 os))) ?_
  intro W base args ds gs before hval hW _ _ _ hL _ _
  exact contract H enc W base args ds gs before hval hW hL

theorem said : Rows.CasketSealsSaid :=
  OpenClaim.holds_of_cond 3 Tryd.f3 rfl rfl rfl rfl rfl rfl rfl ⟨rfl, rfl, rfl, rfl, rfl⟩ rfl rfl rfl rfl rfl (by kernel_rfl) Tryd.func3 (by kernel_rfl)
    (of_decide_eq_true (by kernel_rfl)) (by unfold Func.isWrapper; first | (rw [if_pos (by decide +kernel)]; kernel_rfl) | (rw [if_neg (by decide +kernel)]; exact ⟨rfl, rfl⟩))
    (fun os started H enc _ F => by rw [OpenClaim.pre_eq_preRow]; exact lifted os started H enc F)

/-- No parameter wants a stand-in; the program's own looks are off: what the card asks. -/
theorem plain (f : FuncId) (fn : Func) (hf : Tryd.pinned.checked.prog.funcNamed "casket/caskettop.CasketSeals" = some f) (hfn : Tryd.pinned.checked.prog.funcs[f]? = some fn) :
    false = Tryd.pinned.checked.prog.looks [] ∧ ∀ (j : Nat) t, fn.params[j]? = some t → Tryd.pinned.checked.prog.wantsStandIn t = false := by
  obtain rfl : f = 3 := Option.some.inj ((show Tryd.prog.funcNamed "casket/caskettop.CasketSeals" = some 3 by kernel_rfl).symm.trans hf) |>.symm
  obtain rfl : fn = Tryd.f3 := (Option.some.inj (Tryd.func3.symm.trans hfn)).symm
  refine ⟨by kernel_rfl, fun j t ht => ?_⟩
  rw [Tryd.params3] at ht
  have hm := Array.mem_of_getElem? ht
  simp only [List.mem_toArray, List.mem_cons, List.not_mem_nil, or_false] at hm
  rcases hm with rfl | rfl | rfl
  · exact (show Tryd.prog.wantsStandIn 22 = false by kernel_rfl)
  · exact (show Tryd.prog.wantsStandIn 5 = false by kernel_rfl)
  · exact (show Tryd.prog.wantsStandIn 22 = false by kernel_rfl)

/-- The card. -/
theorem proved : Rows.CasketSealsCardSaid :=
  Claim7.holds_tied_plain_at .later [] _ _ _ _ said (fun _ h => by cases h) (by kernel_rfl) (fun _ h => by cases h) casketSeals_row_tie rfl ⟨rfl, rfl⟩ (by kernel_rfl) rfl plain (by kernel_rfl)
#print axioms proved
end Go.Proofs.YtengjagahhfjoaaDoor.casketSeals
