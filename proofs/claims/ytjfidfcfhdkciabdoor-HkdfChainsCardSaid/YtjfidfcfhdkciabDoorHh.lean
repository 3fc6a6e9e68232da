/-
  What the laws of hmac begin with: a key's digest is another one than that of no key.
-/
import Derived.Test.YtjfidfcfhdkciabDoorHg
import Derived.Lib.SlBytesConst
namespace Go.Proofs.YtjfidfcfhdkciabDoor
open Go.ChangeShapes Go.WideShapes Go.ChangeAt Go.RowKit
set_option linter.unusedVariables false
set_option linter.unusedSimpArgs false

set_option maxRecDepth 100000 in
theorem hmac_kx : (hmacB [107] [120] == hmacB [] [120]) = false := by decide +kernel
theorem eqIn32 (l m : List UInt8) (hl : l.length = 32) (hm : m.length = 32) (W : World) :
    (Op.equalIn 10000 34 (.agg (rowOf l)) (.agg (rowOf m))).run Tryd.prog W = .ok (l == m) W := by
  have hs : ∀ W : World, (sizeOf 5).run Tryd.prog W = .ok 1 W := fun W => by
    obtain ⟨i, hi, hz, hsize, hby⟩ := info_parts info8
    simp [sizeOf, typeInfo, hi, hsize]
  exact run_equalIn_bytes W 9998 34 5 32 Tryd.underlying34 Tryd.underlying5 hs l m hl hm
/-- A constant's bytes, in a row of one part. -/
theorem parts_const (W : World) (l : List UInt8) (n : Nat) (fz : Nat × Nat) (hn : l.length = n) (hm : n ≤ 1000) :
    Parts ((W.alloc (.cells (rowOf l) 5 fz)).alloc (.cells #[.slice (some ⟨W.heap.size, 0, none⟩) n n] 29)) ((W.alloc (.cells (rowOf l) 5 fz)).alloc (.cells #[.slice (some ⟨W.heap.size, 0, none⟩) n n] 29)).heap.size (some ⟨W.heap.size + 1, 0, none⟩) [l] := by
  have h := parts_one (W.alloc (.cells (rowOf l) 5 fz)) (some ⟨W.heap.size, 0, none⟩) n n l (W.heap.size + 1) hn (rd_mark W l fz) (by simp) (Nat.le_refl _) (by unfold maxLen; omega)
  simpa using h
set_option maxRecDepth 100000 in
set_option maxHeartbeats 4000000 in
theorem keyed_any (w : World) (ht : Tab w) (hg1 : 0 < w.heap.size) :
    Calls Tryd.prog 25 #[] w fun e w' => e = .returned (.bool true) ∧ Below w.heap.size w w' := by
  have hz := z32
  have HT := hid_h ht
  have k1 := fun (W : World) (C : Array Value) (n c : Nat) => Lib.run_convert_bytes_const (P := Tryd.prog) W 29 5 C n c Tryd.underlying29 Tryd.underlying5
  have k2 : ∀ (W : World) (C : Array Value) (n c g : Nat) (hg : W.heap.size = g), (convert 29 29 (.slice (some ⟨g, 0, none⟩) n c)).run Tryd.prog (W.alloc (.cells C 5)) = .ok (.slice (some ⟨g, 0, none⟩) n c) (W.alloc (.cells C 5 (C.size, C.size + 1))) := fun W C n c g hg => by subst hg; exact k1 W C n c
  have k3 := k2 (w.alloc (.cells #[.int .u8 107] 5 (1, 2))) #[.int .u8 120] 1 1 (w.heap.size + 1) (by simp)
  obtain ⟨wa, hwa⟩ : ∃ wa, w.alloc (.cells #[.int .u8 107] 5 (1, 2)) = wa := ⟨_, rfl⟩
  have sa : wa.heap.size = w.heap.size + 1 := by rw [← hwa]; simp
  have Ba : Below w.heap.size w wa := by rw [← hwa]; exact (Below.refl _ _).alloc (Nat.le_refl _) _
  have Ra : Rd wa (w.heap.size + 1) (some ⟨w.heap.size, 0, none⟩) [107] := by rw [← hwa]; exact rd_mark w [107] (1, 2)
  have hpc := parts_const wa [120] 1 (1, 2) rfl (by omega)
  have Bp : Below w.heap.size w ((wa.alloc (.cells (rowOf [120]) 5 (1, 2))).alloc (.cells #[.slice (some ⟨wa.heap.size, 0, none⟩) 1 1] 29)) := (Ba.alloc (by omega) _).alloc (by simp <;> omega) _
  have hm1 := hmac_any ((wa.alloc (.cells (rowOf [120]) 5 (1, 2))).alloc (.cells #[.slice (some ⟨wa.heap.size, 0, none⟩) 1 1] 29)) (some ⟨w.heap.size, 0, none⟩) 1 1 [107] rfl (by omega) (by omega) (by omega)
    (((Ra.alloc (by omega) _).alloc (by simp <;> omega) _).more (by simp <;> omega)) (some ⟨wa.heap.size + 1, 0, none⟩) 1 1 [[120]] rfl hpc (by omega) (by simp) (fun t h => (Bp.cell (p := ⟨_, t, none⟩) hg1).trans (HT.out t h)) (Nat.lt_of_lt_of_le hg1 Bp.size)
  have hm2 := fun (W : World) (hb : Below w.heap.size w W) (hs : w.heap.size ≤ W.heap.size) => (show Calls Tryd.prog 24 #[.slice none 0 0, .slice (some ⟨W.heap.size + 1, 0, none⟩) 1 1] ((W.alloc (.cells #[.int .u8 120] 5 (1, 2))).alloc (.cells #[.slice (some ⟨W.heap.size, 0, none⟩) 1 1] 29)) (fun e w' => e = .returned (.agg (rowOf (hmacB [] [120]))) ∧ Below ((W.alloc (.cells #[.int .u8 120] 5 (1, 2))).alloc (.cells #[.slice (some ⟨W.heap.size, 0, none⟩) 1 1] 29)).heap.size ((W.alloc (.cells #[.int .u8 120] 5 (1, 2))).alloc (.cells #[.slice (some ⟨W.heap.size, 0, none⟩) 1 1] 29)) w') from
    hmac_any _ none 0 0 [] rfl (by omega) (by omega) (by omega) Rd.nil (some ⟨W.heap.size + 1, 0, none⟩) 1 1 [[120]] rfl (parts_const W [120] 1 (1, 2) rfl (by omega)) (by omega) (by simp) (fun t h => (((hb.alloc hs _).alloc (by simp <;> omega) _).cell (p := ⟨_, t, none⟩) hg1).trans (HT.out t h)) (by simp <;> omega))
  rw [show ([[120]] : List (List UInt8)).flatten = [120] from rfl] at hm1
  rw [sa] at hm1 Bp
  have hne := hmac_kx
  have cr1 : ∀ W, Calls Tryd.prog 26 #[.string ⟨#[107]⟩, .string ⟨#[120]⟩] W fun e w' => e = .returned (.string (strOf (hmacB [107] [120]))) ∧ Below W.heap.size W w' := fun W => refHmac_any W [107] [120] (by simp) (by simp)
  have cr2 : ∀ W, Calls Tryd.prog 26 #[.string ⟨#[]⟩, .string ⟨#[120]⟩] W fun e w' => e = .returned (.string (strOf (hmacB [] [120]))) ∧ Below W.heap.size W w' := fun W => refHmac_any W [] [120] (by simp) (by simp)
  have lA := hmacB_len [107] [120]
  have lB := hmacB_len [] [120]
  generalize hmacB [107] [120] = A at *
  generalize hmacB [] [120] = B at *
  have F1 := hid_h (eqIn32 A B lA lB)
  rw [hne] at F1
  have LA := hid_h lA
  have LB := hid_h lB
  have IA := hid_h (show (Tryd.prog.info? 34).map (·.size) = some (rowOf A).size by rw [rowOf_size, lA]; exact i32_)
  have QA := hid_h (show (rowOf (zbytes 32)).size = (rowOf A).size by rw [rowOf_size, rowOf_size, lA, zbytes_len])
  have IB := hid_h (show (Tryd.prog.info? 34).map (·.size) = some (rowOf B).size by rw [rowOf_size, lB]; exact i32_)
  have QB := hid_h (show (rowOf (zbytes 32)).size = (rowOf B).size by rw [rowOf_size, rowOf_size, lB, zbytes_len])
  have HM2 := hid_h hm2
  have BP := hid_h Bp
  have hall := dig_all
  have hrow : rowOf [120] = #[Value.int .u8 120] := rfl
  rw [hrow] at hm1 BP
  clear hm2 Bp hrow ht hne Ra Ba hpc lA lB
  go_enter Tryd.func25, Tryd.ntmps25
  go_upto_region 2 with (first
    | (go_at_call 24; ((with_reducible refine hm1.mono ?_); rintro e w2 ⟨rfl, hb⟩; have B2 := hid_h (BP.out.trans (hb.mono BP.out.size)); clear hb hm1; have hm3 := HM2.out w2 B2.out B2.out.size))
    | (go_at_call 24; ((with_reducible refine hm3.mono ?_); rintro e w3 ⟨rfl, hb⟩; have BQ := (B2.out.alloc B2.out.size (.cells #[.int .u8 120] 5 (1, 2))).alloc (by have := B2.out.size; simp <;> omega) (.cells #[.slice (some ⟨w2.heap.size, 0, none⟩) 1 1] 29); have B3 := hid_h (BQ.trans (hb.mono BQ.size)); clear hb hm3 BQ; have BZ := hid_h ((B3.out.alloc B3.out.size (.cells (rowOf (zbytes 32)) 34)).alloc (by have := B3.out.size; simp <;> omega) (.cells (rowOf (zbytes 32)) 34)); have ZA := hid_h ((Bk.new w3 34 (rowOf (zbytes 32))).alloc (.cells (rowOf (zbytes 32)) 34)); have ZB := hid_h (show Bk ((w3.alloc (.cells (rowOf (zbytes 32)) 34)).alloc (.cells (rowOf (zbytes 32)) 34)) (w3.heap.size + 1) 34 (rowOf (zbytes 32)) by simpa using Bk.new (w3.alloc (.cells (rowOf (zbytes 32)) 34)) 34 (rowOf (zbytes 32)))))
    | (refine wpList_put_row rfl 34 (.tmp 1) (.tmp 8) rfl w3.heap.size (rowOf A) rfl rfl 34 (rowOf (zbytes 32)) ZA.out IA.out QA.out (bytes_one _) ?_; intro w4 k4 g4 s4; have KA4 := hid_h k4; have KB4 := hid_h (ZB.out.grown g4 (fun e => by injection e with e; omega)); have B4 := hid_h (BZ.out.grown g4 BZ.out.size (fun k hk => by injection hk with hk; have := B3.out.size; omega)); clear k4 g4 s4)
    | (refine wpList_put_row rfl 34 (.tmp 2) (.tmp 12) rfl (w3.heap.size + 1) (rowOf B) rfl rfl 34 (rowOf (zbytes 32)) KB4.out IB.out QB.out (bytes_one _) ?_; intro w5 k5 g5 s5; have KB5 := hid_h k5; have KA5 := hid_h (KA4.out.grown g5 (fun e => by injection e with e; omega)); have B5 := hid_h (B4.out.grown g5 B4.out.size (fun k hk => by injection hk with hk; have := B3.out.size; omega)); clear k5 g5 s5))
  rw [put_none, put_none]
  generalize w3.heap.size = x at *
  have V1 : Hid (∀ W : World, Below w5.heap.size w5 W → (convert 29 9 (.slice (some ⟨x, 0, none⟩) 32 32)).run Tryd.prog W = .ok (.string (strOf A)) W) := hid_h (fun W h => conv_strn ((KA5.out.below h KA5.out.lt).rd (KA5.out.below h KA5.out.lt).lt) 32 32 LA.out)
  have V2 : Hid (∀ W : World, Below w5.heap.size w5 W → (convert 29 9 (.slice (some ⟨x + 1, 0, none⟩) 32 32)).run Tryd.prog W = .ok (.string (strOf B)) W) := hid_h (fun W h => conv_strn ((KB5.out.below h KB5.out.lt).rd (KB5.out.below h KB5.out.lt).lt) 32 32 LB.out)
  have P1 : Hid (∀ W : World, Below w5.heap.size w5 W → Calls Tryd.prog 26 #[.string ⟨#[107]⟩, .string ⟨#[120]⟩] W fun e w' => e = .returned (.string (strOf A)) ∧ Below w5.heap.size w5 w') := hid_h (fun W h => (cr1 W).mono fun e w' hh => ⟨hh.1, h.trans (hh.2.mono h.size)⟩)
  have P2 : Hid (∀ W : World, Below w5.heap.size w5 W → Calls Tryd.prog 26 #[.string ⟨#[]⟩, .string ⟨#[120]⟩] W fun e w' => e = .returned (.string (strOf B)) ∧ Below w5.heap.size w5 w') := hid_h (fun W h => (cr2 W).mono fun e w' hh => ⟨hh.1, h.trans (hh.2.mono h.size)⟩)
  have q1 := strOf_eq A A rfl
  have q2 := strOf_eq B B rfl
  have IA1 := IA.out
  have IB1 := IB.out
  clear ZA ZB BZ KB4 KA4 B4 B3 B2
  refine region_quiet_in (C := fun W => Below w5.heap.size w5 W) (by kernel_rfl) (by kernel_rfl) ((Below.refl _ _).drew) ?_
  repeat (first | go_big_quiet_skip | (go_big_quiet_want; (first
    | (refine BigFrame.quiet_move _ rfl ?_; go_simp)
    | (refine BigFrame.quiet_assign _ rfl ?_; go_simp)
    | (refine quiet_run (.slice (some ⟨x, 0, none⟩) 32 32) ?_ ?_; (focus (intro W hW; go_simp; done)); go_simp)
    | (refine quiet_run (.slice (some ⟨x + 1, 0, none⟩) 32 32) ?_ ?_; (focus (intro W hW; go_simp; done)); go_simp)
    | (refine quiet_run (.string (strOf A)) ?_ ?_; (focus (intro W hW; have h := V1.out W hW; go_simp; done)); go_simp)
    | (refine quiet_run (.string (strOf B)) ?_ ?_; (focus (intro W hW; have h := V2.out W hW; go_simp; done)); go_simp)
    | (refine quiet_call (.string (strOf A)) 26 #[.string ⟨#[107]⟩, .string ⟨#[120]⟩] ?_ P1.out ?_; (focus (intro W; go_simp; done)); go_simp)
    | (refine quiet_call (.string (strOf B)) 26 #[.string ⟨#[]⟩, .string ⟨#[120]⟩] ?_ P2.out ?_; (focus (intro W; go_simp; done)); go_simp)
    | (refine quiet_load_row 34 (.tmp 1) rfl x rfl 34 (rowOf A) _ Tryd.underlying34 rfl IA1 (fun W hW => KA5.out.below hW KA5.out.lt) ?_; go_simp)
    | (refine quiet_load_row 34 (.tmp 2) rfl (x + 1) rfl 34 (rowOf B) _ Tryd.underlying34 rfl IB1 (fun W hW => KB5.out.below hW KB5.out.lt) ?_; go_simp)
    | (refine quiet_run (.bool true) ?_ ?_; (focus (intro W hW; have h := F1.out W; go_simp; done)); go_simp)); go_big_quiet_on))
  refine wpQuiet_nil ?_
  intro w6 hw6
  have X6 : Hid (Below w.heap.size w w6) := hid_h (B5.out.trans (Below.mono hw6 B5.out.size))
  clear hw6 V1 V2 P1 P2
  go_wp2
  go_ret
  exact ⟨rfl, X6.out⟩
end Go.Proofs.YtjfidfcfhdkciabDoor
