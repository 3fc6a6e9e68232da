/-
  No vault: what it answers. Two new things that are named in one drawn region.
-/
import Derived.Test.YthbkbmckmoleiaaGreatDoorZf
namespace Go.Proofs.YthbkbmckmoleiaaGreatDoor
set_option maxRecDepth 100000
open Go.ChangeShapes Go.WideShapes Go.ChangeAt Go.RowKit
set_option linter.unusedVariables false
set_option linter.unusedSimpArgs false

theorem hidzg_ {p : Prop} (h : p) : Hid p := h
theorem nnone_any (w : World) : Calls Tryz.prog 9 #[] w fun e w' => e = .returned (.pointer none) ∧ w = w' := by
  go_enter Tryz.func9, Tryz.ntmps9
  go_wp2
  go_ret
  exact ⟨rfl, rfl⟩
theorem nmade_any (w : World) : Calls Tryz.prog 33 #[.pointer none] w fun e w' => e = .returned (.bool false) ∧ w = w' := by
  go_enter Tryz.func33, Tryz.ntmps33
  go_wp2
  go_ret
  exact ⟨rfl, rfl⟩
theorem nideal_any (w : World) : Calls Tryz.prog 14 #[.pointer none] w fun e w' => e = .returned (.bool false) ∧ w = w' := by
  go_enter Tryz.func14, Tryz.ntmps14
  go_wp2
  go_ret
  exact ⟨rfl, rfl⟩
theorem ncount_any (w : World) : Calls Tryz.prog 15 #[.pointer none] w fun e w' => e = .returned (.int .i64 0) ∧ w = w' := by
  go_enter Tryz.func15, Tryz.ntmps15
  go_wp2
  go_ret
  exact ⟨rfl, rfl⟩
theorem isideal_any {w : World} {v : Nat} {id : Bool} {K : List UInt8} {sp nm kn : Option Nat} (h : Bk w v 84 (vrow id K sp nm kn)) : Calls Tryz.prog 14 #[.pointer (some ⟨v, 0, none⟩)] w fun e w' => e = .returned (.bool id) ∧ w = w' := by
  have c0 := (h.cell 0).trans (vrow_0 _ _ _ _ _)
  clear h
  go_enter Tryz.func14, Tryz.ntmps14
  go_wp2
  go_ret
  exact ⟨rfl, rfl⟩
set_option maxRecDepth 100000 in
set_option maxHeartbeats 4000000 in
theorem nblind_any (w : World) (A : Option Addr) (n c : Nat) : Calls Tryz.prog 10 #[.pointer none, .slice A n c] w fun e w' => e = .returned (.tuple #[.agg (rowOf (zbytes 32)), .int .i64 1]) ∧ Below w.heap.size w w' := by
  have hz := zB
  obtain ⟨g, w0, hg, hw0, A0, X0, S0⟩ := vblind_start w
  have cm := nmade_any w0
  have IB := hidzg_ (iB (zbytes 32) (zbytes_len 32))
  have HZZ := hidzg_ (show Tryz.prog.built 24 [] = some (rowOf (zbytes 32)) by kernel_rfl)
  have Z0 := hidzg_ A0
  have HX0 := hidzg_ X0
  have HG := hidzg_ hg
  clear X0 A0
  go_enter Tryz.func10, Tryz.ntmps10
  go_wp2_with (first
    | (go_at_call 33; ((with_reducible refine cm.mono ?_); clear cm; rintro e w' ⟨rfl, rfl⟩))
    | (refine wpList_built rfl 24 #[] rfl (rowOf (zbytes 32)) HZZ.out ?_)
    | (refine wpList_put_row rfl 24 (.tmp 4) (.tmp 11) rfl g (rowOf (zbytes 32)) rfl rfl 24 (rowOf (zbytes 32)) Z0.out IB.out rfl (bytes_one _) ?_; intro w7 k8 g7 s7; have k8h := hidzg_ k8; have HX7 := hidzg_ (HX0.out.grown g7 (by have := HX0.out.size; omega) (fun k hk => by injection hk with hk; omega)); clear k8 g7 s7))
  exact bodyPost_ret (results_cell_slot Tryz.results10 _ _ g rfl rfl (run_loadVar_row _ _ _ _ _ (0, 0) _ k8h.out Tryz.underlying24 rfl IB.out)) rfl ⟨rfl, HG.out ▸ HX7.out⟩
set_option maxRecDepth 100000 in
set_option maxHeartbeats 4000000 in
theorem nkeys_any (w : World) (e c n : Int) : Calls Tryz.prog 37 #[.pointer none, .int .i64 e, .int .i64 c, .int .i64 n] w fun r w' => r = .returned noKeys ∧ Below w.heap.size w w' := by
  have hz := z32
  have hz12 := z12
  obtain ⟨g, w0, hg, hw0, A0, A1, X0, S0⟩ := keys_start w
  have HX0 := hidzg_ X0
  have Z0 := hidzg_ A0
  have Z1 := hidzg_ A1
  have IL := hidzg_ (ib32 (zbytes 32) (zbytes_len 32))
  have IN := hidzg_ (ib12 (zbytes 12) (zbytes_len 12))
  have HZ1 := hidzg_ (show Tryz.prog.built 22 [] = some (rowOf (zbytes 32)) by kernel_rfl)
  have HZ2 := hidzg_ (show Tryz.prog.built 87 [] = some (rowOf (zbytes 12)) by kernel_rfl)
  have cm := nmade_any w0
  have HG := hidzg_ hg
  unfold noKeys
  clear X0 A0 A1
  go_enter Tryz.func37, Tryz.ntmps37
  go_wp2_with (first
    | (go_at_call 33; ((with_reducible refine cm.mono ?_); clear cm; rintro e w' ⟨rfl, rfl⟩))
    | (refine wpList_built rfl 22 #[] rfl (rowOf (zbytes 32)) HZ1.out ?_)
    | (refine wpList_built rfl 87 #[] rfl (rowOf (zbytes 12)) HZ2.out ?_)
    | (refine wpList_put_row rfl 22 (.tmp 8) (.tmp 17) rfl g (rowOf (zbytes 32)) rfl rfl 22 (rowOf (zbytes 32)) Z0.out IL.out rfl (bytes_one _) ?_; intro w6 k6 g6 s6; have k7 := hidzg_ (Z1.out.oneOf g6 (by omega)); have k6h := hidzg_ k6; have HX6 := hidzg_ (HX0.out.grown g6 (by have := HX0.out.size; omega) (fun k hk => by injection hk with hk; omega)); clear k6 g6 s6)
    | (refine wpList_put_row rfl 87 (.tmp 9) (.tmp 18) rfl (g + 1) (rowOf (zbytes 12)) rfl rfl 87 (rowOf (zbytes 12)) k7.out IN.out rfl (bytes_one _) ?_; intro w7 k8 g7 s7; have k9 := hidzg_ (k6h.out.oneOf g7 (by omega)); have k8h := hidzg_ k8; have HX7 := hidzg_ (HX6.out.grown g7 (by have := HX6.out.size; omega) (fun k hk => by injection hk with hk; omega)); clear k8 g7 s7))
  exact bodyPost_ret (results_cells_slot Tryz.results37 _ _ g (g + 1) rfl rfl rfl (run_loadVar_row _ _ _ _ _ (0, 0) _ k9.out Tryz.underlying22 rfl IL.out) (run_loadVar_row _ _ _ _ _ (0, 0) _ k8h.out Tryz.underlying87 rfl IN.out)) rfl ⟨rfl, HG.out ▸ HX7.out⟩
set_option maxRecDepth 100000 in
set_option maxHeartbeats 4000000 in
theorem nseal_no (w : World) (A B : Option Addr) (na ca nb cb : Nat) (e c n : Int) (ck : Calls Tryz.prog 37 #[.pointer none, .int .i64 e, .int .i64 c, .int .i64 n] w fun r w' => r = .returned noKeys ∧ Below w.heap.size w w') :
    Calls Tryz.prog 11 #[.pointer none, .int .i64 e, .int .i64 c, .int .i64 n, .slice A na ca, .slice B nb cb] w fun r w' => r = .returned (.tuple #[.slice none 0 0, .int .i64 1]) ∧ Below w.heap.size w w' := by
  have hz := z32
  have hz12 := z12
  obtain ⟨Ls, hLs⟩ : ∃ L, zbytes 32 = L := ⟨_, rfl⟩
  obtain ⟨No, hNo⟩ : ∃ L, zbytes 12 = L := ⟨_, rfl⟩
  have IL := hidyb_ (show (Tryz.prog.info? 22).map (·.size) = some (rowOf Ls).size by rw [← hLs]; exact ib32 _ (zbytes_len 32))
  have IN := hidyb_ (show (Tryz.prog.info? 87).map (·.size) = some (rowOf No).size by rw [← hNo]; exact ib12 _ (zbytes_len 12))
  have QL := hidyb_ (show (rowOf (zbytes 32)).size = (rowOf Ls).size by rw [hLs])
  have QN := hidyb_ (show (rowOf (zbytes 12)).size = (rowOf No).size by rw [hNo])
  unfold noKeys at ck
  rw [show (Value.tuple #[.agg (rowOf (zbytes 32)), .agg (rowOf (zbytes 12)), .int .i64 1]) = .tuple #[.agg (rowOf Ls), .agg (rowOf No), .int .i64 1] by rw [hLs, hNo]] at ck
  clear hLs hNo
  go_enter Tryz.func11, Tryz.ntmps11
  go_wp2_with (first
    | (go_at_call 37; ((with_reducible refine ck.mono ?_); clear ck; rintro r w1 ⟨rfl, hb⟩; have B1 := hidyb_ hb; clear hb; obtain ⟨b1, w1a, hb1, hw1a, KA, NA, XA, SA⟩ := keys_start w1; have B1s := B1.out.size; have HB1 := hidyb_ hb1))
    | (refine wpList_put_row rfl 22 (.tmp 14) (.tmp 27) rfl b1 (rowOf Ls) rfl rfl 22 (rowOf (zbytes 32)) KA IL.out QL.out (bytes_one _) ?_; intro w2 k2 g2 s2; have NA2 := NA.oneOf g2 (by omega); have X2 := XA.grown g2 (by omega) (fun k hk => by injection hk with hk; omega); have K2 := k2; clear g2 s2 KA NA k2)
    | (refine wpList_put_row rfl 87 (.tmp 15) (.tmp 28) rfl (b1 + 1) (rowOf No) rfl rfl 87 (rowOf (zbytes 12)) NA2 IN.out QN.out (bytes_one _) ?_; intro w3 k3 g3 s3; have K3 := hidyb_ (K2.oneOf g3 (by omega)); have N3 := hidyb_ k3; have X3 := hidyb_ (X2.grown g3 (by have := X2.size; omega) (fun k hk => by injection hk with hk; omega)); have B3 := hidyb_ (B1.out.trans (X3.out.mono (by rw [← HB1.out]; exact B1.out.size))); clear g3 s3 k3 NA2 K2 X2))
  go_ret2
  exact ⟨rfl, B3.out⟩
set_option maxRecDepth 100000 in
set_option maxHeartbeats 4000000 in
theorem nopen_no (w : World) (A B : Option Addr) (na ca nb cb : Nat) (e c n : Int) (ck : Calls Tryz.prog 37 #[.pointer none, .int .i64 e, .int .i64 c, .int .i64 n] w fun r w' => r = .returned noKeys ∧ Below w.heap.size w w') :
    Calls Tryz.prog 12 #[.pointer none, .int .i64 e, .int .i64 c, .int .i64 n, .slice A na ca, .slice B nb cb] w fun r w' => r = .returned (.tuple #[.slice none 0 0, .int .i64 1]) ∧ Below w.heap.size w w' := by
  have hz := z32
  have hz12 := z12
  obtain ⟨Ls, hLs⟩ : ∃ L, zbytes 32 = L := ⟨_, rfl⟩
  obtain ⟨No, hNo⟩ : ∃ L, zbytes 12 = L := ⟨_, rfl⟩
  have IL := hidyb_ (show (Tryz.prog.info? 22).map (·.size) = some (rowOf Ls).size by rw [← hLs]; exact ib32 _ (zbytes_len 32))
  have IN := hidyb_ (show (Tryz.prog.info? 87).map (·.size) = some (rowOf No).size by rw [← hNo]; exact ib12 _ (zbytes_len 12))
  have QL := hidyb_ (show (rowOf (zbytes 32)).size = (rowOf Ls).size by rw [hLs])
  have QN := hidyb_ (show (rowOf (zbytes 12)).size = (rowOf No).size by rw [hNo])
  unfold noKeys at ck
  rw [show (Value.tuple #[.agg (rowOf (zbytes 32)), .agg (rowOf (zbytes 12)), .int .i64 1]) = .tuple #[.agg (rowOf Ls), .agg (rowOf No), .int .i64 1] by rw [hLs, hNo]] at ck
  clear hLs hNo
  go_enter Tryz.func12, Tryz.ntmps12
  go_wp2_with (first
    | (go_at_call 37; ((with_reducible refine ck.mono ?_); clear ck; rintro r w1 ⟨rfl, hb⟩; have B1 := hidyb_ hb; clear hb; obtain ⟨b1, w1a, hb1, hw1a, KA, NA, XA, SA⟩ := keys_start w1; have B1s := B1.out.size; have HB1 := hidyb_ hb1))
    | (refine wpList_put_row rfl 22 (.tmp 14) (.tmp 25) rfl b1 (rowOf Ls) rfl rfl 22 (rowOf (zbytes 32)) KA IL.out QL.out (bytes_one _) ?_; intro w2 k2 g2 s2; have NA2 := NA.oneOf g2 (by omega); have X2 := XA.grown g2 (by omega) (fun k hk => by injection hk with hk; omega); have K2 := k2; clear g2 s2 KA NA k2)
    | (refine wpList_put_row rfl 87 (.tmp 15) (.tmp 26) rfl (b1 + 1) (rowOf No) rfl rfl 87 (rowOf (zbytes 12)) NA2 IN.out QN.out (bytes_one _) ?_; intro w3 k3 g3 s3; have K3 := hidyb_ (K2.oneOf g3 (by omega)); have N3 := hidyb_ k3; have X3 := hidyb_ (X2.grown g3 (by have := X2.size; omega) (fun k hk => by injection hk with hk; omega)); have B3 := hidyb_ (B1.out.trans (X3.out.mono (by rw [← HB1.out]; exact B1.out.size))); clear g3 s3 k3 NA2 K2 X2))
  go_ret2
  exact ⟨rfl, B3.out⟩
/-- Two new things, made in whichever order, and a name for each: what is told of one, of the other, of both. -/
structure JW (i1 i2 i3 i4 s1 s2 d1 d2 : Nat) (P Q : Value → World → Prop) (PQ : Value → Value → World → Prop) (D : Nat → Bool) (a : Act) (W : World) : Prop where
  one : D i1 = true → D i2 = false → P (a.tmps.getD s1 undef) W
  two : D i2 = true → D i1 = false → Q (a.tmps.getD s2 undef) W
  both : D i1 = true → D i2 = true → PQ (a.tmps.getD s1 undef) (a.tmps.getD s2 undef) W
  e1 : D i3 = true → D i1 = true ∧ a.tmps.getD d1 undef = a.tmps.getD s1 undef
  e2 : D i4 = true → D i2 = true ∧ a.tmps.getD d2 undef = a.tmps.getD s2 undef
section
variable {i1 i2 i3 i4 s1 s2 d1 d2 : Nat} {P Q : Value → World → Prop} {PQ : Value → Value → World → Prop} {D : Nat → Bool} {a : Act} {W W' : World}
theorem JW.other (h : JW i1 i2 i3 i4 s1 s2 d1 d2 P Q PQ D a W) (i s : Nat) (v : Value) (hi : i1 ≠ i ∧ i2 ≠ i ∧ i3 ≠ i ∧ i4 ≠ i) (hs : s1 ≠ s ∧ s2 ≠ s ∧ d1 ≠ s ∧ d2 ≠ s) : JW i1 i2 i3 i4 s1 s2 d1 d2 P Q PQ (fun j => decide (j = i) || D j) (a.put (some s) v) W := by
  refine ⟨?_, ?_, ?_, ?_, ?_⟩
  · rw [orf_ne hi.1, orf_ne hi.2.1, put_otherY hs.1]; exact h.one
  · rw [orf_ne hi.1, orf_ne hi.2.1, put_otherY hs.2.1]; exact h.two
  · rw [orf_ne hi.1, orf_ne hi.2.1, put_otherY hs.1, put_otherY hs.2.1]; exact h.both
  · rw [orf_ne hi.1, orf_ne hi.2.2.1, put_otherY hs.1, put_otherY hs.2.2.1]; exact h.e1
  · rw [orf_ne hi.2.1, orf_ne hi.2.2.2, put_otherY hs.2.1, put_otherY hs.2.2.2]; exact h.e2
theorem JW.first (h : JW i1 i2 i3 i4 s1 s2 d1 d2 P Q PQ D a W) (v : Value) (hL : D i1 = false) (hi : i2 ≠ i1 ∧ i3 ≠ i1 ∧ i4 ≠ i1) (hs : s2 ≠ s1 ∧ d2 ≠ s1) (hsz : s1 < a.tmps.size) (hp : P v W') (hq : ∀ u, Q u W → PQ v u W') :
    JW i1 i2 i3 i4 s1 s2 d1 d2 P Q PQ (fun j => decide (j = i1) || D j) (a.put (some s1) v) W' := by
  have h3 : D i3 = false := by
    cases e : D i3 with
    | false => rfl
    | true => rw [(h.e1 e).1] at hL; cases hL
  refine ⟨fun _ _ => ?_, fun _ e => ?_, fun _ e => ?_, fun e => ?_, ?_⟩
  · rw [put_selfY hsz]; exact hp
  · rw [orf_eq] at e; cases e
  · rw [orf_ne hi.1] at e
    rw [put_selfY hsz, put_otherY hs.1]
    exact hq _ (h.two e hL)
  · rw [orf_ne hi.2.1, h3] at e; cases e
  · rw [orf_ne hi.1, orf_ne hi.2.2, put_otherY hs.1, put_otherY hs.2]; exact h.e2
theorem JW.second (h : JW i1 i2 i3 i4 s1 s2 d1 d2 P Q PQ D a W) (v : Value) (hL : D i2 = false) (hi : i1 ≠ i2 ∧ i3 ≠ i2 ∧ i4 ≠ i2) (hs : s1 ≠ s2 ∧ d1 ≠ s2) (hsz : s2 < a.tmps.size) (hq : Q v W') (hp : ∀ u, P u W → PQ u v W') :
    JW i1 i2 i3 i4 s1 s2 d1 d2 P Q PQ (fun j => decide (j = i2) || D j) (a.put (some s2) v) W' := by
  have h4 : D i4 = false := by
    cases e : D i4 with
    | false => rfl
    | true => rw [(h.e2 e).1] at hL; cases hL
  refine ⟨fun _ e => ?_, fun _ _ => ?_, fun e _ => ?_, ?_, fun e => ?_⟩
  · rw [orf_eq] at e; cases e
  · rw [put_selfY hsz]; exact hq
  · rw [orf_ne hi.1] at e
    rw [put_selfY hsz, put_otherY hs.1]
    exact hp _ (h.one e hL)
  · rw [orf_ne hi.1, orf_ne hi.2.1, put_otherY hs.1, put_otherY hs.2]; exact h.e1
  · rw [orf_ne hi.2.2, h4] at e; cases e
theorem JW.third (h : JW i1 i2 i3 i4 s1 s2 d1 d2 P Q PQ D a W) (h1 : D i1 = true) (hi : i1 ≠ i3 ∧ i2 ≠ i3 ∧ i4 ≠ i3) (hs : s1 ≠ d1 ∧ s2 ≠ d1 ∧ d2 ≠ d1) (hsz : d1 < a.tmps.size) : JW i1 i2 i3 i4 s1 s2 d1 d2 P Q PQ (fun j => decide (j = i3) || D j) (a.put (some d1) (a.tmps.getD s1 undef)) W := by
  refine ⟨?_, ?_, ?_, fun _ => ?_, ?_⟩
  · rw [orf_ne hi.1, orf_ne hi.2.1, put_otherY hs.1]; exact h.one
  · rw [orf_ne hi.1, orf_ne hi.2.1, put_otherY hs.2.1]; exact h.two
  · rw [orf_ne hi.1, orf_ne hi.2.1, put_otherY hs.1, put_otherY hs.2.1]; exact h.both
  · rw [orf_ne hi.1, put_selfY hsz, put_otherY hs.1]; exact ⟨h1, rfl⟩
  · rw [orf_ne hi.2.1, orf_ne hi.2.2, put_otherY hs.2.1, put_otherY hs.2.2]; exact h.e2
theorem JW.fourth (h : JW i1 i2 i3 i4 s1 s2 d1 d2 P Q PQ D a W) (h2 : D i2 = true) (hi : i1 ≠ i4 ∧ i2 ≠ i4 ∧ i3 ≠ i4) (hs : s1 ≠ d2 ∧ s2 ≠ d2 ∧ d1 ≠ d2) (hsz : d2 < a.tmps.size) : JW i1 i2 i3 i4 s1 s2 d1 d2 P Q PQ (fun j => decide (j = i4) || D j) (a.put (some d2) (a.tmps.getD s2 undef)) W := by
  refine ⟨?_, ?_, ?_, ?_, fun _ => ?_⟩
  · rw [orf_ne hi.1, orf_ne hi.2.1, put_otherY hs.1]; exact h.one
  · rw [orf_ne hi.1, orf_ne hi.2.1, put_otherY hs.2.1]; exact h.two
  · rw [orf_ne hi.1, orf_ne hi.2.1, put_otherY hs.1, put_otherY hs.2.1]; exact h.both
  · rw [orf_ne hi.1, orf_ne hi.2.2, put_otherY hs.1, put_otherY hs.2.2]; exact h.e1
  · rw [orf_ne hi.2.1, put_selfY hsz, put_otherY hs.2.1]; exact ⟨h2, rfl⟩
theorem JW.start : JW i1 i2 i3 i4 s1 s2 d1 d2 P Q PQ (fun _ => false) a W :=
  ⟨fun e => Bool.noConfusion e, fun e => Bool.noConfusion e, fun e => Bool.noConfusion e, fun e => Bool.noConfusion e, fun e => Bool.noConfusion e⟩
end
/-- A new vault; a new box of the document's; both, apart. -/
def WV (id : Bool) (K : List UInt8) (b : Nat) (u : Value) (W : World) : Prop := ∃ v sp nm kn F, u = .pointer (some ⟨v, 0, none⟩) ∧ VS id v sp nm kn K [] [] W F ∧ ∀ k ∈ F, b ≤ k
def rfRow (id : Bool) (K : List UInt8) : Array Value := #[.bool id, .string (strOf K), .slice none 0 0, .slice none 0 0]
def WR (id : Bool) (K : List UInt8) (b : Nat) (u : Value) (W : World) : Prop := ∃ g, u = .pointer (some ⟨g, 0, none⟩) ∧ Bk W g 40 (rfRow id K) ∧ b ≤ g
def WVR (id : Bool) (K : List UInt8) (b : Nat) (u u' : Value) (W : World) : Prop := ∃ v sp nm kn g F, u = .pointer (some ⟨v, 0, none⟩) ∧ u' = .pointer (some ⟨g, 0, none⟩) ∧ VS id v sp nm kn K [] [] W F ∧ (∀ k ∈ F, b ≤ k) ∧ Bk W g 40 (rfRow id K) ∧ b ≤ g ∧ g ∉ F
theorem ref_start {W : World} {g : Nat} {id : Bool} {K : List UInt8} (h : Bk W g 40 (rfRow id K)) : RS id g K [] [] W [g] :=
  ⟨.slice none 0 0, .slice none 0 0, h, OwnN.nil_ W 0, OwnSL.nil_ W 0, by simp, fun b e => (by cases e), fun b e => (by cases e), fun k hk => by rw [List.mem_singleton.1 hk]; exact h.lt⟩
theorem vault_new (id : Bool) (w : World) (K : List UInt8) (hK : K.length = 32) : Calls Tryz.prog (if id then 18 else 16) #[.agg (rowOf K)] w fun e w' => ∃ v sp nm kn F, e = .returned (.pointer (some ⟨v, 0, none⟩)) ∧ VS id v sp nm kn K [] [] w' F ∧ (∀ k ∈ F, w.heap.size ≤ k) ∧ Below w.heap.size w w' := by
  cases id
  · rw [if_neg (by decide)]
    exact (real_new w K hK).mono fun e w' ⟨v, sp, F, h1, h2, h3, h4⟩ => ⟨v, sp, 0, 0, F, h1, h2, h3, h4⟩
  · rw [if_pos rfl]
    exact (ideal_new w K hK).mono fun e w' ⟨v, sp, nm, kn, F, h1, h2, h3, h4⟩ => ⟨v, sp, nm, kn, F, h1, h2, h3, h4⟩
theorem WVR.one {id : Bool} {K : List UInt8} {b v sp nm kn : Nat} {F : List Nat} {W W' : World} (hv : VS id v sp nm kn K [] [] W' F) (hF : ∀ k ∈ F, W.heap.size ≤ k) (hb : Below W.heap.size W W') (hW : b ≤ W.heap.size) : ∀ u, WR id K b u W → WVR id K b (.pointer (some ⟨v, 0, none⟩)) u W' := by
  rintro u ⟨g, rfl, hg, hbg⟩
  exact ⟨v, sp, nm, kn, g, F, rfl, rfl, hv, fun k hk => Nat.le_trans hW (hF k hk), hg.below hb hg.lt, hbg, fun hm => by have h1 := hF g hm; have h2 := hg.lt; omega⟩
theorem WVR.two {id : Bool} {K : List UInt8} {b : Nat} {W W' : World} {g : Nat} (hg : Bk W' g 40 (rfRow id K)) (hgb : W.heap.size ≤ g) (hb : Below W.heap.size W W') (hW : b ≤ W.heap.size) : ∀ u, WV id K b u W → WVR id K b u (.pointer (some ⟨g, 0, none⟩)) W' := by
  rintro u ⟨v, sp, nm, kn, F, rfl, hv, hF⟩
  exact ⟨v, sp, nm, kn, g, F, rfl, rfl, (VS.foot id v sp nm kn K [] []).keep hv (Untouched.of_below (F := []) hb) (fun _ _ => by simp), hF, hg, Nat.le_trans hW hgb, fun hm => by have h1 := (VS.foot id v sp nm kn K [] []).lt hv g hm; omega⟩
theorem iRV (id : Bool) (K : List UInt8) : (Tryz.prog.info? 40).map (·.size) = some (rfRow id K).size := by kernel_rfl
end Go.Proofs.YthbkbmckmoleiaaGreatDoor
