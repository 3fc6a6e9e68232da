/-
  Merged: Yj Yk Yl Ym Yn Yo.
-/
import Derived.Test.YtmomnfhoeabdnaaDoorYG
import Derived.Test.YtmomnfhoeabdnaaDoorLp
import Derived.Deep.Strs
import Derived.Deep.Slices
import Derived.Test.YtmomnfhoeabdnaaDoorEd
import Derived.Stop.BytesEq
import Derived.Great.BuildSlice
import Derived.Maps.AppendAt
namespace Go.Proofs.YtmomnfhoeabdnaaDoor
set_option maxRecDepth 100000
open Go.ChangeShapes Go.WideShapes Go.ChangeAt Go.RowKit
set_option linter.unusedVariables false
set_option linter.unusedSimpArgs false

structure VAct where
  what : Int
  epoch : Int
  client : Int
  counter : Int
  wa : Option Addr
  wl : List UInt8
  wc : Nat
  ba : Option Addr
  bl : List UInt8
  bc : Nat
  which : Int
  by_ : UInt8
instance : Inhabited VAct := ⟨⟨0, 0, 0, 0, none, [], 0, none, [], 0, 0, 0⟩⟩
def VAct.row (q : VAct) : Array Value := #[.int .i64 q.what, .int .i64 q.epoch, .int .i64 q.client, .int .i64 q.counter, .slice q.wa q.wl.length q.wc, .slice q.ba q.bl.length q.bc, .int .i64 q.which, .int .u8 (q.by_.toNat : Int)]
structure VActOk (w : World) (B : Nat) (q : VAct) : Prop where
  hwhat : okI q.what
  hepoch : okI q.epoch
  hclient : okI q.client
  hcounter : okI q.counter
  wrd : Rd w B q.wa q.wl
  wlen : q.wl.length ≤ q.wc
  wcap : q.wc ≤ 9223372036854775807
  brd : Rd w B q.ba q.bl
  blen : q.bl.length ≤ q.bc
  bcap : q.bc ≤ 9223372036854775807
  hwhich : okI q.which
theorem VActOk.below {w w' : World} {B : Nat} {q : VAct} (h : VActOk w B q) (hb : Below B w w') : VActOk w' B q := ⟨h.hwhat, h.hepoch, h.hclient, h.hcounter, h.wrd.below hb, h.wlen, h.wcap, h.brd.below hb, h.blen, h.bcap, h.hwhich⟩
theorem VActOk.more {w : World} {B C : Nat} {q : VAct} (h : VActOk w B q) (hB : B ≤ C) : VActOk w C q := ⟨h.hwhat, h.hepoch, h.hclient, h.hcounter, h.wrd.more hB, h.wlen, h.wcap, h.brd.more hB, h.blen, h.bcap, h.hwhich⟩
/-- The cells of a slice of bytes, within something greater. -/
theorem cells_bytesV {H : Type} {enc : TypeId × Value → H} {P : Program} {t e : TypeId} {w : World} {fuel : Nat} {sp : Nat → Bool} {held : Bool} {cs : List Value} {d : DataW H × List MemPlace}
    (ht : P.underlying t = some (.slice e)) (he : P.underlying e = some (.int .u8)) (hc : P.cellsOf e = 1)
    (hf : DataW.trod enc P w 0 sp held fuel t cs = some d) :
    ∃ A l c, cs = [.slice A (l : List UInt8).length c] ∧ Rd w w.heap.size A l ∧ l.length ≤ c ∧ c ≤ maxLen := by
  rcases open_ints ht he hc hf with ⟨hcs, hx⟩ | ⟨a, len, cap, zs, hcs, _, hl, hm, hz, hx, hcell, hwz⟩
  · exact ⟨none, [], 0, hcs, Rd.nil, Nat.le_refl _, Nat.zero_le _⟩
  · have hzl : len ≤ zs.length := by
      rw [hz]; split <;> omega
    have hlen : ((zs.take len).map fun n => UInt8.ofNat n.toNat).length = len := by
      rw [List.length_map, List.length_take]; omega
    refine ⟨some a, (zs.take len).map fun n => UInt8.ofNat n.toNat, cap, by rw [hlen]; exact hcs, fun h0 => ?_, by rw [hlen]; exact hl, hm⟩
    rw [hlen] at h0
    obtain ⟨b, off, spot⟩ := a
    have hc0 := hcell 0 (by omega)
    have hspot : spot = none := by simpa [Addr.add] using World.cell?_spot hc0
    subst hspot
    have hplain : ∀ j, (⟨b, off, none⟩ : Addr).add j = ⟨b, off + j, none⟩ := fun j => by unfold Addr.add; split <;> simp_all
    refine ⟨b, off, rfl, World.block_lt_of_cell? w _ hc0, fun j hj => ?_⟩
    rw [hlen] at hj
    rw [← hplain, hcell j (by omega)]
    have hb := bounds_u8 (hwz (zs.getD j 0) (by simp [List.getD, show j < zs.length by omega]))
    have e1 : ((zs.take len).map fun n => UInt8.ofNat n.toNat).getD j 0 = UInt8.ofNat (zs.getD j 0).toNat := by
      simp [List.getD, hj, show j < zs.length by omega]
    rw [e1]
    generalize zs.getD j 0 = z at hb
    congr 2
    simp
    omega
theorem cells_intV {H : Type} {enc : TypeId × Value → H} {P : Program} {t : TypeId} {w : World} {fuel : Nat} {sp : Nat → Bool} {held : Bool} {cs : List Value} {d : DataW H × List MemPlace}
    (ht : P.underlying t = some (.int .i64)) (hf : DataW.trod enc P w 0 sp held fuel t cs = some d) : ∃ z, cs = [.int .i64 z] ∧ okI z := by
  obtain ⟨n, e, _, hw⟩ := DataW.trod_int ht hf
  exact ⟨n, e, bounds_i64 hw⟩
theorem cells_u8V {H : Type} {enc : TypeId × Value → H} {P : Program} {t : TypeId} {w : World} {fuel : Nat} {sp : Nat → Bool} {held : Bool} {cs : List Value} {d : DataW H × List MemPlace}
    (ht : P.underlying t = some (.int .u8)) (hf : DataW.trod enc P w 0 sp held fuel t cs = some d) : ∃ u : UInt8, cs = [.int .u8 ((u.toNat : Nat) : Int)] := by
  obtain ⟨n, e, _, hw⟩ := DataW.trod_int ht hf
  obtain ⟨b1, b2⟩ := bounds_u8 hw
  refine ⟨UInt8.ofNat n.toNat, ?_⟩
  have : (UInt8.ofNat n.toNat).toNat = n.toNat := by simp; omega
  rw [this, e]
  congr 2
  omega
theorem cellsU_ : Tryd.prog.cellsOf 5 = 1 := by kernel_rfl
theorem cellsSl_ : Tryd.prog.cellsOf 27 = 1 := by kernel_rfl
end Go.Proofs.YtmomnfhoeabdnaaDoor

namespace Go.Proofs.YtmomnfhoeabdnaaDoor
set_option maxRecDepth 100000
open Go.ChangeShapes Go.WideShapes Go.ChangeAt Go.RowKit
set_option linter.unusedVariables false
set_option linter.unusedSimpArgs false

theorem u64_natY (z : Int) : ∃ x : Nat, IntKind.u64.wrap z = (x : Int) ∧ x ≤ 18446744073709551615 := by
  have h : IntKind.u64.wrap z = z % 18446744073709551616 := by simp [IntKind.wrap, IntKind.signed, IntKind.bits]
  have h0 : 0 ≤ z % 18446744073709551616 := Int.emod_nonneg _ (by omega)
  have h1 : z % 18446744073709551616 < 18446744073709551616 := Int.emod_lt_of_pos _ (by omega)
  exact ⟨(z % 18446744073709551616).toNat, by rw [h]; omega, by omega⟩
theorem u8_byteY (z : Int) : ∃ u : UInt8, IntKind.u8.wrap z = ((u.toNat : Nat) : Int) := by
  have h : IntKind.u8.wrap z = z % 256 := by simp [IntKind.wrap, IntKind.signed, IntKind.bits]
  have h0 : 0 ≤ z % 256 := Int.emod_nonneg _ (by omega)
  have h1 : z % 256 < 256 := Int.emod_lt_of_pos _ (by omega)
  refine ⟨UInt8.ofNat (z % 256).toNat, ?_⟩
  have : (UInt8.ofNat (z % 256).toNat).toNat = (z % 256).toNat := by simp; omega
  rw [this, h]
  omega
/-- A number drawn into 0 .. m-1: what the walk wants. -/
structure RestY (z : Int) (m U R : Nat) : Prop where
  u : IntKind.u64.wrap z = (U : Int)
  t : (U : Int).tmod (m : Int) = (R : Int)
  r : (U : Int) % (m : Int) = (R : Int)
  wu : IntKind.u64.wrap (R : Int) = (R : Int)
  wi : IntKind.i64.wrap (R : Int) = (R : Int)
  lt : R < m
theorem restY (z : Int) (m : Nat) (h0 : 0 < m) (h1 : m ≤ 1000000000) : ∃ U R, RestY z m U R := by
  obtain ⟨U, hU, hb⟩ := u64_natY z
  have hlt : U % m < m := Nat.mod_lt _ h0
  have e : (U : Int) % (m : Int) = ((U % m : Nat) : Int) := by simp
  exact ⟨U, U % m, hU, by rw [Int.tmod_eq_emod_of_nonneg (by omega), e], e, IntWalk.u64_in _ (by omega), IntWalk.i64_in _ (by omega), hlt⟩
theorem restU (U m : Nat) (h0 : 0 < m) (h1 : m ≤ 1000000000) : ∃ R : Nat, (U : Int).tmod (m : Int) = (R : Int) ∧ (U : Int) % (m : Int) = (R : Int) ∧ IntKind.u64.wrap (R : Int) = (R : Int) ∧ IntKind.i64.wrap (R : Int) = (R : Int) ∧ R < m := by
  have hlt : U % m < m := Nat.mod_lt _ h0
  have e : (U : Int) % (m : Int) = ((U % m : Nat) : Int) := by simp
  exact ⟨U % m, by rw [Int.tmod_eq_emod_of_nonneg (by omega), e], e, IntWalk.u64_in _ (by omega), IntWalk.i64_in _ (by omega), hlt⟩
/-- What two cuts of an act leave. -/
def CtR (g : Nat) (q : VAct) (mw mb : Nat) (X B : List UInt8) (base : Nat) : Nat → Value → World → Prop
  | 0, u, _ => u = .pointer (some ⟨g, 4, none⟩)
  | 1, u, _ => u = .slice q.wa q.wl.length q.wc
  | 2, u, W => ∃ A c, u = .slice A mw c ∧ Own8 W base (.slice A mw c) X
  | 3, u, _ => u = .pointer (some ⟨g, 5, none⟩)
  | 4, u, _ => u = .slice q.ba q.bl.length q.bc
  | 5, u, W => ∃ A c, u = .slice A mb c ∧ Own8 W base (.slice A mb c) B
  | 6, u, W => ∃ A c, u = .slice A mw c ∧ Own8 W base (.slice A mw c) X
  | 7, u, W => ∃ A c, u = .slice A mb c ∧ Own8 W base (.slice A mb c) B
  | _, _, _ => True
theorem CtR.stable {g : Nat} {q : VAct} {mw mb : Nat} {X B : List UInt8} {base : Nat} {W W' : World} (hT : Below W.heap.size W W') : ∀ (j : Nat) (u : Value), CtR g q mw mb X B base j u W → CtR g q mw mb X B base j u W'
  | 0, _, h => h
  | 1, _, h => h
  | 2, _, ⟨A, c, e, h⟩ => ⟨A, c, e, h.below hT (Nat.le_refl _)⟩
  | 3, _, h => h
  | 4, _, h => h
  | 5, _, ⟨A, c, e, h⟩ => ⟨A, c, e, h.below hT (Nat.le_refl _)⟩
  | 6, _, ⟨A, c, e, h⟩ => ⟨A, c, e, h.below hT (Nat.le_refl _)⟩
  | 7, _, ⟨A, c, e, h⟩ => ⟨A, c, e, h.below hT (Nat.le_refl _)⟩
  | _ + 8, _, _ => trivial
section
variable {w W W' : World} {v sp nm kn : Nat} {K : List UInt8} {N : List (List UInt8)} {S : List (Nat × Nat)} {L : List SealV} {F : List Nat}
theorem Mine.grownB (h : Mine w v sp nm kn K N S L F W) {row : Option Nat} (hg : W.grownBy W' row) (hr : ∀ k, row = some k → w.heap.size ≤ k ∧ k ∉ F) : Mine w v sp nm kn K N S L F W' :=
  ⟨h.vlt.keep (fun k hk => hg.block k (h.vlt.hF k hk) (fun e => (hr k e.symm).2 hk)) hg.size, h.own, h.below.grown hg h.below.size (fun k hk => (hr k hk).1)⟩
theorem Mine.set (h : Mine w v sp nm kn K N S L F W) {g i : Nat} (u : Value) (hw : w.heap.size ≤ g) (hF : g ∉ F) : Mine w v sp nm kn K N S L F (W.setCell ⟨g, i, none⟩ u) :=
  ⟨h.vlt.keep (fun k hk => Below.heap_setCell W ⟨g, i, none⟩ u k (fun e => hF (by rw [← show k = g from e]; exact hk))) (by simp), h.own, h.below.setCell (p := ⟨g, i, none⟩) hw u⟩
end
theorem ownBlock_some {A : Option Addr} {n c k : Nat} (h : (Value.slice A n c).ownBlock = some k) : ∃ a, A = some a ∧ a.block = k := by
  cases A with
  | none => simp [Value.ownBlock] at h
  | some a => exact ⟨a, rfl, by simpa [Value.ownBlock] using h⟩
theorem set_neY (l : List UInt8) (i : Nat) (v : UInt8) (h : i < l.length) (hv : v ≠ l.getD i 0) : l.set i v ≠ l := by
  intro e
  have h1 := congrArg (fun m => m.getD i 0) e
  simp [List.getD, h] at h1
  apply hv
  simp [List.getD, h]
  exact h1
theorem xor_neY (v u : UInt8) (h : u ≠ 0) : v ^^^ u ≠ v := by
  intro e
  apply h
  have : v ^^^ (v ^^^ u) = v ^^^ v := by rw [e]
  simpa [← UInt8.xor_assoc] using this
theorem append_neY (l : List UInt8) (u : UInt8) : l ++ [u] ≠ l := by
  intro e
  have := congrArg List.length e
  simp at this
end Go.Proofs.YtmomnfhoeabdnaaDoor

namespace Go.Proofs.YtmomnfhoeabdnaaDoor
set_option maxRecDepth 100000
open Go.RowKit Go.Maps
set_option linter.unusedVariables false
set_option linter.unusedSimpArgs false

theorem VltR.spentBy {w w' : World} {v sp : Nat} {K : List UInt8} {S : List (Nat × Nat)} {F : List Nat} (h : VltR w v sp K S F) (ht : w.mapTurned w' sp) (p : Nat × Nat) (hN : MapIs w' 88 sp (S ++ [p]).length (fS (S ++ [p]))) : VltR w' v sp K (S ++ [p]) F :=
  ⟨h.blk.turned ht, hN, h.len, h.inv, h.ins, fun k hk => by rw [turned_size ht]; exact h.hF k hk⟩
set_option maxRecDepth 100000 in
set_option maxHeartbeats 8000000 in
theorem vseal_real {w : World} {v sp : Nat} {K : List UInt8} {S : List (Nat × Nat)} {F : List Nat} (h : VltR w v sp K S F) (Aw B : Option Addr) (na ca nb cb : Nat) (x b : List UInt8) (hx : x.length = na) (hb : b.length = nb) (hrx : Rd w w.heap.size Aw x) (hrb : Rd w w.heap.size B b) (hna : na ≤ 100000) (hnb : nb ≤ 100000) (hcb : nb ≤ cb) (hcm : cb ≤ 9223372036854775807)
    (e c n : Nat) (he : e ≤ 1048576) (hc : c ≤ 16) (hn : n ≤ 4611686018427387904) (hin : (c, n) ∉ S) (hSl : S.length ≤ 100000)
    (ck : Calls Tryd.prog 35 #[.pointer (some ⟨v, 0, none⟩), .int .i64 (e : Int), .int .i64 (c : Int), .int .i64 (n : Int)] w fun r w' => r = .returned (yesKeys K e c n) ∧ Below w.heap.size w w') :
    Calls Tryd.prog 17 #[.pointer (some ⟨v, 0, none⟩), .int .i64 (e : Int), .int .i64 (c : Int), .int .i64 (n : Int), .slice Aw na ca, .slice B nb cb] w fun r w' => ∃ A d, r = .returned (.tuple #[.slice A (nb + 16) d, .int .i64 0]) ∧ Own8 w' w.heap.size (.slice A (nb + 16) d) (sealB (sealK K e) (nonceB c n) x b) ∧ VltR w' v sp K (S ++ [(c, n)]) F ∧ Untouched F w w' := by
  have hz := z32
  have hz12 := z12
  have hzS := zS_
  have iS := iS_
  obtain ⟨Ls, hLs⟩ : ∃ L, sealK K e = L := ⟨_, rfl⟩
  obtain ⟨No, hNo⟩ : ∃ L, nonceB c n = L := ⟨_, rfl⟩
  have LL := hidyb_ (show Ls.length = 32 by rw [← hLs]; exact sealK_len _ _)
  have NL := hidyb_ (show No.length = 12 by rw [← hNo]; exact nonceB_len _ _)
  have IL := hidyb_ (ib32 Ls LL.out)
  have IN := hidyb_ (ib12 No NL.out)
  have QL := hidyb_ (show (rowOf (zbytes 32)).size = (rowOf Ls).size by rw [rowOf_size, rowOf_size, LL.out, zbytes_len])
  have QN := hidyb_ (show (rowOf (zbytes 12)).size = (rowOf No).size by rw [rowOf_size, rowOf_size, NL.out, zbytes_len])
  unfold yesKeys at ck
  rw [hLs, hNo] at ck
  obtain ⟨kl, hkl⟩ := sKey_lit (c : Int) (n : Int) (by unfold okI; omega) (by unfold okI; omega)
  have KLIT := hidyb_ hkl
  unfold sKey at hkl
  rw [hLs, hNo]
  have HV0 := hidyb_ h
  have HV := hidyb_ h.blk
  have KL := hidyb_ h.len
  have HS := hidyb_ h.spent
  have HI := hidyb_ (fS_no hin)
  have SB := hidyb_ hSl
  have XL := hidyb_ hx
  have BL := hidyb_ hb
  have RX := hidyb_ hrx
  have RB := hidyb_ hrb
  have HNB := hidyb_ hnb
  have HNA := hidyb_ hna
  have HCB := hidyb_ (And.intro hcb hcm)
  clear h hLs hNo hc hn hin hkl hSl hx hb hrx hrb hnb hna he hcb hcm
  go_enter Tryd.func17, Tryd.ntmps17
  go_upto_region 5 with (first
    | (go_at_call 35; ((with_reducible refine ck.mono ?_); clear ck; rintro r w1 ⟨rfl, hb⟩; have B1 := hidyb_ hb; clear hb; obtain ⟨b1, w1a, hb1, hw1a, KA, NA, XA, SA⟩ := keys_start w1; have B1s := B1.out.size; have HB1 := hidyb_ hb1))
    | (refine wpList_put_row rfl 25 (.tmp 14) (.tmp 27) rfl b1 (rowOf Ls) rfl rfl 25 (rowOf (zbytes 32)) KA IL.out QL.out (bytes_one _) ?_; intro w2 k2 g2 s2; have NA2 := NA.oneOf g2 (by omega); have X2 := XA.grown g2 (by omega) (fun k hk => by injection hk with hk; omega); have K2 := k2; clear g2 s2 KA NA k2)
    | (refine wpList_put_row rfl 84 (.tmp 15) (.tmp 28) rfl (b1 + 1) (rowOf No) rfl rfl 84 (rowOf (zbytes 12)) NA2 IN.out QN.out (bytes_one _) ?_; intro w3 k3 g3 s3; have K3 := hidyb_ (K2.oneOf g3 (by omega)); have N3 := hidyb_ k3; have X3 := hidyb_ (X2.grown g3 (by have := X2.size; omega) (fun k hk => by injection hk with hk; omega)); have B3 := hidyb_ (B1.out.trans (X3.out.mono (by rw [← HB1.out]; exact B1.out.size))); clear g3 s3 k3 NA2 K2 X2)
    | (refine wpList_put_row rfl 88 (.tmp 17) (.tmp 35) rfl w3.heap.size #[.int .i64 (c : Int), .int .i64 (n : Int)] rfl rfl 88 #[.int .i64 0, .int .i64 0] (Bk.new w3 _ _) iS rfl (one2i _ _) ?_; intro w4 k4 g4 s4; have BX : Below w3.heap.size w3 w4 := (((Below.refl w3.heap.size w3).alloc (Nat.le_refl _) (.cells #[.int .i64 0, .int .i64 0] 88)).grown g4 (by simp) (fun k hk => by injection hk with hk; omega)); have K4 := hidyb_ k4; have B4 := hidyb_ (B3.out.trans (BX.mono B3.out.size)); have L4 := hidyb_ (K3.out.below BX K3.out.lt); have N4 := hidyb_ (N3.out.below BX N3.out.lt); clear k4 g4 s4 BX))
  rename_i K9 hK9
  have HC : Hid (Keep4 w w4) := hidyb_ B4.out
  generalize hg3 : w3.heap.size = b4 at *
  obtain ⟨g4, hg4⟩ : ∃ g, w4.heap.size = g := ⟨_, rfl⟩
  have G4 := hidyb_ hg4
  have K4l : b4 < g4 := by rw [← hg4]; exact K4.out.lt
  have CM : Hid (∀ W, Below g4 w4 W → W.cell? ⟨v, 33, none⟩ = some (.map (some sp))) := hidyb_ (fun W hW => ((HV.out.below (B4.out.trans (hW.mono (by rw [← hg4]; exact B4.out.size))) HV.out.lt).cell 33).trans (vrow_33 _ K KL.out _ _ _))
  have LK : Hid (∀ W, Below g4 w4 W → (Instr.lookup 46 (.map (some sp)) (.agg #[.int .i64 (c : Int), .int .i64 (n : Int)]) true).run Tryd.prog W = .ok (.tuple #[.agg #[], .bool false]) W) := hidyb_ (fun W hW => by
    have hm := HS.out.keep ((B4.out.trans (hW.mono (by rw [← hg4]; exact B4.out.size))).block sp HS.out.lt)
    have h := hm.look keyedS Tryd.underlying46 (zU_ W) KLIT.out
    rw [HI.out] at h
    exact h)
  clear hw1a SA B1 X3 B3 K3 N3 hg3 hb1 XA B1s HB1
  refine region_byF [37, 38, 39, 40, 41, 42, 36, 43, 44, 18, 19] (fun W => Below g4 w4 W) (fun W W' => Below W.heap.size W W') (SlR v sp (c : Int) (n : Int) false) (by kernel_rfl) (by kernel_rfl) (by kernel_rfl) (by kernel_rfl) (fun j v w w' hT hr => ?_) (fun j v w hlt hj _ => ?_) (by rw [← hg4]; exact (Below.refl _ _).drew) ?_ ?_
  · exact SlR.stable hT j v hr
  · rcases j with _ | _ | _ | _ | _ | _ | _ | _ | _ | _ | _ | _ | j
    all_goals first
      | (exfalso; simp [dstOf] at hj; done)
      | trivial
  · refine ⟨fun a W hC hd hf hv K hK => ?_, fun a W hC hd hf hv K hK => ?_, fun a W hC hd hf hv K hK => ?_, fun a W hC hd hf hv K hK => ?_, fun a W hC hd hf hv K hK => ?_, fun a W hC hd hf hv K hK => ?_, fun a W hC hd hf hv K hK => ?_, fun a W hC hd hf hv K hK => ?_, fun a W hC hd hf hv K hK => ?_, fun a W hC hd hf hv K hK => ?_, fun a W hC hd hf hv K hK => ?_, fun a W hC hd hf hv K hK => ?_, trivial⟩
    · have e1 := slot_of (a := a) (s := 0) (v := .pointer (some ⟨v, 0, none⟩)) (hf 0 (by kernel_rfl))
      refine step_run (wanted_none rfl) (v := .pointer (some ⟨v, 0, none⟩)) (w' := W) ?_ (hK _ _ hC (Below.refl _ _) rfl)
      go_simp
    · have e1 := slot_of (a := a) (s := 37) (v := .pointer (some ⟨v, 0, none⟩)) (hv 0 (by kernel_rfl))
      refine step_run (wanted_none rfl) (v := .pointer (some ⟨v, 0, none⟩)) (w' := W) ?_ (hK _ _ hC (Below.refl _ _) rfl)
      go_simp
    · have e1 := slot_of (a := a) (s := 38) (v := .pointer (some ⟨v, 0, none⟩)) (hv 1 (by kernel_rfl))
      refine step_run (wanted_none rfl) (v := .pointer (some ⟨v, 33, none⟩)) (w' := W) ?_ (hK _ _ hC (Below.refl _ _) rfl)
      go_simp
    · have e1 := slot_of (a := a) (s := 39) (v := .pointer (some ⟨v, 33, none⟩)) (hv 2 (by kernel_rfl))
      have c33 := CM.out W hC
      refine step_run (wanted_none rfl) (v := .map (some sp)) (w' := W) ?_ (hK _ _ hC (Below.refl _ _) rfl)
      go_simp
    · have e1 : a.tmps.getD 17 undef = .pointer (some ⟨b4, 0, none⟩) := hf 17 (by kernel_rfl)
      have k4 := K4.out.below hC K4l
      exact step_load_rowW (wanted_none rfl) 88 (.tmp 17) rfl b4 (eval_of e1) 88 #[.int .i64 (c : Int), .int .i64 (n : Int)] k4 _ Tryd.underlying88 rfl iS (hK _ _ hC (Below.refl _ _) rfl)
    · have e1 := slot_of (a := a) (s := 40) (v := .map (some sp)) (hv 3 (by kernel_rfl))
      have e2 := slot_of (a := a) (s := 41) (v := .agg #[.int .i64 (c : Int), .int .i64 (n : Int)]) (hv 4 (by kernel_rfl))
      have lk := LK.out W hC
      refine step_run (wanted_none rfl) (v := .tuple #[.agg #[], .bool false]) (w' := W) ?_ (hK _ _ hC (Below.refl _ _) rfl)
      go_simp
    · have e1 := slot_of (a := a) (s := 42) (v := .tuple #[.agg #[], .bool false]) (hv 5 (by kernel_rfl))
      refine step_run (wanted_none rfl) (v := .tuple #[.agg #[], .bool false]) (w' := W) ?_ (hK _ _ hC (Below.refl _ _) rfl)
      go_simp
    · have e1 := slot_of (a := a) (s := 36) (v := .tuple #[.agg #[], .bool false]) (hv 6 (by kernel_rfl))
      refine step_run (wanted_none rfl) (v := .agg #[]) (w' := W) ?_ (hK _ _ hC (Below.refl _ _) rfl)
      go_simp
    · have e1 := slot_of (a := a) (s := 36) (v := .tuple #[.agg #[], .bool false]) (hv 6 (by kernel_rfl))
      refine step_run (wanted_none rfl) (v := .bool false) (w' := W) ?_ (hK _ _ hC (Below.refl _ _) rfl)
      go_simp
    · have hzU := zU_
      have hbl := (Below.refl W.heap.size W).alloc (Nat.le_refl _) (.cells #[] 89)
      refine step_run (wanted_none rfl) (v := .pointer (some ⟨W.heap.size, 0, none⟩)) (w' := W.alloc (.cells #[] 89)) ?_ (hK _ _ (hC.trans (hbl.mono (G4.out ▸ hC.size))) hbl ⟨W.heap.size, rfl, Bk.new W _ _⟩)
      go_simp
    · obtain ⟨q, eq, hq⟩ : ∃ q, a.tmps.getD 18 undef = .pointer (some ⟨q, 0, none⟩) ∧ Bk W q 89 #[] := hv 9 (by kernel_rfl)
      refine step_put_row rfl 89 (.tmp 18) (.tmp 43) rfl q #[] (eval_of eq) (eval_of (hv 7 (by kernel_rfl))) 89 #[] hq iU_ rfl (by simp) ?_
      intro W2 k2 g2 s2
      have hbl := Below.same_row hq k2 g2
      exact hK undef _ (hC.trans (hbl.mono (G4.out ▸ hC.size))) hbl trivial
    · have e1 := slot_of (a := a) (s := 44) (v := .bool false) (hv 8 (by kernel_rfl))
      refine step_run (wanted_none rfl) (v := .bool false) (w' := W) ?_ (hK _ _ hC (Below.refl _ _) rfl)
      go_simp
  · intro f w6 hC6 hv6
    obtain ⟨q18, e18, -⟩ : ∃ q, f 18 = .pointer (some ⟨q, 0, none⟩) ∧ Bk w6 q 89 #[] := hv6 9 (by decide)
    have f36 : f 36 = .tuple #[.agg #[], .bool false] := hv6 6 (by decide)
    have f37 : f 37 = .pointer (some ⟨v, 0, none⟩) := hv6 0 (by decide)
    have f38 : f 38 = .pointer (some ⟨v, 0, none⟩) := hv6 1 (by decide)
    have f39 : f 39 = .pointer (some ⟨v, 33, none⟩) := hv6 2 (by decide)
    have f40 : f 40 = .map (some sp) := hv6 3 (by decide)
    have f41 : f 41 = .agg #[.int .i64 (c : Int), .int .i64 (n : Int)] := hv6 4 (by decide)
    have f42 : f 42 = .tuple #[.agg #[], .bool false] := hv6 5 (by decide)
    have f43 : f 43 = .agg #[] := hv6 7 (by decide)
    have f44 : f 44 = .bool false := hv6 8 (by decide)
    have f19 : f 19 = .bool false := hv6 11 (by decide)
    simp only [framed, List.foldl_cons, List.foldl_nil, List.setIfInBounds_toArray, List.set_cons_succ, List.set_cons_zero]
    rw [e18, f36, f37, f38, f39, f40, f41, f42, f43, f44, f19]
    have B6 := hidyb_ hC6
    clear hv6 hC6 e18 f36 f37 f38 f39 f40 f41 f42 f43 f44 f19
    refine hK9 _ _ ?_
    go_upto_region 8 with fail
    rename_i K8 hK8
    have hbU := bU_
    refine region_quiet_tail (C := fun W => Below g4 w4 W) 6 (by kernel_rfl) (by decide +kernel) (B6.out.drew) ?_
    simp only [List.take_succ_cons, List.take_zero]
    repeat (go_big_quiet_want; (first
      | (refine BigFrame.quiet_move _ rfl ?_; go_simp)
      | (refine quiet_run (.pointer (some ⟨v, 0, none⟩)) ?_ ?_; (focus (intro W hW; go_simp; done)); go_simp)
      | (refine quiet_run (.pointer (some ⟨v, 33, none⟩)) ?_ ?_; (focus (intro W hW; go_simp; done)); go_simp)
      | (refine quiet_run (.map (some sp)) ?_ ?_; (focus (intro W hW; have h := CM.out W hW; go_simp; done)); go_simp)
      | (refine quiet_load_row 88 (.tmp 17) rfl b4 rfl 88 #[.int .i64 (c : Int), .int .i64 (n : Int)] _ Tryd.underlying88 rfl iS (fun W hW => K4.out.below hW K4l) ?_; go_simp)
      | (refine quiet_run (.agg #[]) ?_ ?_; (focus (intro W hW; go_simp; done)); go_simp)); go_big_quiet_on)
    refine wpQuiet_nil ?_
    intro w7 hw7
    simp only [List.drop_succ_cons, List.drop_zero]
    have B7 := HC.out.trans (hw7.mono (by rw [← G4.out]; exact HC.out.size))
    have V7 := HV0.out.below B7
    refine wpList_storeM rfl (.tmp 49) (.tmp 50) (.tmp 51) 46 rfl 88 89 keyedS Tryd.underlying46 sp S.length (fS S) rfl V7.spent (by have := SB.out; unfold maxLen; omega) (sKey (c : Int) (n : Int)) (.agg #[]) _ rfl rfl KLIT.out HI.out ?_
    intro w8 hm8 ht8
    rw [fS_snoc] at hm8

    have V8 := hidyb_ (V7.spentBy ht8 (c, n) (by rw [List.length_append]; exact hm8))
    have U8 := hidyb_ ((Untouched.of_below (F := F) B7).trans (Grew.refl _ _) (Untouched.turned ht8 V7.ins))
    have X8 := hidyb_ (show Rd w8 w8.heap.size Aw x from ((RX.out.below B7).turned ht8).more (by rw [turned_size ht8]; exact B7.size))
    have Y8 := hidyb_ (show Rd w8 w8.heap.size B b from ((RB.out.below B7).turned ht8).more (by rw [turned_size ht8]; exact B7.size))
    have L8 := hidyb_ ((L4.out.below hw7 (by rw [← G4.out]; exact L4.out.lt)).turned ht8)
    have N8 := hidyb_ ((N4.out.below hw7 (by rw [← G4.out]; exact N4.out.lt)).turned ht8)
    have c0 := (V8.out.blk.cell 0).trans (vrow_0 _ _ _ _ _)
    have csl := seal_any Ls No Aw na ca x B nb cb b w8 LL.out NL.out XL.out BL.out X8.out Y8.out HCB.out.1 HCB.out.2 (by have := HNA.out; omega) (by have := HNB.out; omega)
    clear hw7 B7 V7 hm8 ht8 hbU
    refine hK8 _ _ ?_
    go_wp2_with (first
      | (refine wpList_load_row rfl 25 (.tmp 14) rfl b1 rfl 25 (rowOf Ls) (0, 0) _ L8.out Tryd.underlying25 rfl IL.out ?_)
      | (refine wpList_load_row rfl 84 (.tmp 15) rfl (b1 + 1) rfl 84 (rowOf No) (0, 0) _ N8.out Tryd.underlying84 rfl IN.out ?_)
      | (go_at_call 36; ((with_reducible refine csl.mono ?_); clear csl; rintro r w9 ⟨A9, c9, rfl, ho, hb⟩; have O9 := hidyb_ (ho.lower U8.out.size); have V9 := hidyb_ (V8.out.below hb); have U9 := hidyb_ (U8.out.thenB hb); clear ho hb)))
    go_ret2
    exact ⟨_, _, rfl, O9.out, V9.out, U9.out⟩
end Go.Proofs.YtmomnfhoeabdnaaDoor

namespace Go.Proofs.YtmomnfhoeabdnaaDoor
set_option maxRecDepth 100000
open Go.ChangeShapes Go.WideShapes Go.ChangeAt Go.RowKit
set_option linter.unusedVariables false
set_option linter.unusedSimpArgs false

theorem put_otherY {a : Act} {s t : Nat} {v : Value} (h : s ≠ t) : (a.put (some t) v).tmps.getD s undef = a.tmps.getD s undef := by
  simp only [Act.put]
  simp [Array.getD_eq_getD_getElem?, Array.getElem?_setIfInBounds, Ne.symm h]
theorem put_selfY {a : Act} {t : Nat} {v : Value} (h : t < a.tmps.size) : (a.put (some t) v).tmps.getD t undef = v := by
  simp [Act.put, h]
/-- Bytes, each changed by the same one. -/
def xorU (u : UInt8) (l : List UInt8) : List UInt8 := l.map (· ^^^ u)
theorem xorU_len (u : UInt8) (l : List UInt8) : (xorU u l).length = l.length := by simp [xorU]
theorem xorU_inj {u : UInt8} {l m : List UInt8} (h : xorU u l = xorU u m) : l = m := by
  have e : ∀ k : List UInt8, xorU u (xorU u k) = k := fun k => by
    unfold xorU
    rw [List.map_map]
    conv => rhs; rw [← List.map_id k]
    apply List.map_congr_left
    intro x _
    simp [UInt8.xor_assoc]
  rw [← e l, h, e]
theorem idxOf_xorU (u : UInt8) (s : List UInt8) : ∀ N : List (List UInt8), (N.map (xorU u)).idxOf (xorU u s) = N.idxOf s
  | [] => rfl
  | x :: N => by
    rw [List.map_cons, List.idxOf_cons, List.idxOf_cons, idxOf_xorU u s N]
    by_cases h : x = s
    · subst h; simp
    · have h2 : xorU u x ≠ xorU u s := fun e => h (xorU_inj e)
      rw [show (xorU u x == xorU u s) = false from beq_false_of_ne h2, show (x == s) = false from beq_false_of_ne h]
theorem ordN_xorU (u : UInt8) (N : List (List UInt8)) (s : List UInt8) : ordN (N.map (xorU u)) (xorU u s) = ordN N s := by
  unfold ordN
  rw [idxOf_xorU]
theorem mem_xorU (u : UInt8) (N : List (List UInt8)) (s : List UInt8) : xorU u s ∈ N.map (xorU u) ↔ s ∈ N := by
  constructor
  · intro h
    obtain ⟨t, ht, e⟩ := List.mem_map.1 h
    rw [← xorU_inj e]
    exact ht
  · intro h
    exact List.mem_map.2 ⟨s, h, rfl⟩
theorem addNm_xorU (u : UInt8) (N : List (List UInt8)) (s : List UInt8) : addNm (N.map (xorU u)) (xorU u s) = (addNm N s).map (xorU u) := by
  unfold addNm
  by_cases h : s ∈ N
  · rw [if_pos h, if_pos ((mem_xorU u N s).2 h)]
  · rw [if_neg h, if_neg (fun e => h ((mem_xorU u N s).1 e))]
    simp
theorem addNm_len (N : List (List UInt8)) (s : List UInt8) : (addNm N s).length ≤ N.length + 1 := by
  unfold addNm
  split
  · omega
  · simp
/-! What the calls come to. -/
def blOk (n : Nat) : Prop := 1 ≤ n ∧ n ≤ 64
instance (n : Nat) : Decidable (blOk n) := by unfold blOk; infer_instance
def blB (K : List UInt8) (N : List (List UInt8)) (s : List UInt8) : List UInt8 := if blOk s.length then drawB K 0 (ordN N s) 24 else zbytes 32
def blE (s : List UInt8) : Int := if blOk s.length then 0 else 1
def blN (N : List (List UInt8)) (s : List UInt8) : List (List UInt8) := if blOk s.length then addNm N s else N
theorem blB_len (K : List UInt8) (N : List (List UInt8)) (s : List UInt8) : (blB K N s).length = 32 := by
  unfold blB
  split
  · exact drawB_len _ _ _ _
  · exact zbytes_len 32
theorem blB_xorU (K : List UInt8) (u : UInt8) (N : List (List UInt8)) (s : List UInt8) : blB K (N.map (xorU u)) (xorU u s) = blB K N s := by
  unfold blB
  rw [xorU_len, ordN_xorU]
theorem blE_xorU (u : UInt8) (s : List UInt8) : blE (xorU u s) = blE s := by unfold blE; rw [xorU_len]
theorem blN_xorU (u : UInt8) (N : List (List UInt8)) (s : List UInt8) : blN (N.map (xorU u)) (xorU u s) = (blN N s).map (xorU u) := by
  unfold blN
  rw [xorU_len, addNm_xorU]
  split <;> rfl
theorem blN_len (N : List (List UInt8)) (s : List UInt8) : (blN N s).length ≤ N.length + 1 := by
  unfold blN
  split
  · exact addNm_len N s
  · omega
theorem vblind_out {w : World} {v sp nm kn : Nat} {K : List UInt8} {N : List (List UInt8)} {S : List (Nat × Nat)} {L : List SealV} {F : List Nat} (h : VltI w v sp nm kn K N S L F) (A : Option Addr) (n c : Nat) (name : List UInt8) (hn : name.length = n) (hc : n ≤ c) (hcm : c ≤ 9223372036854775807) (hr : Rd w w.heap.size A name) (hN : N.length ≤ 100000) (ht : Tab w) (hg1 : 0 < w.heap.size) :
    Calls Tryd.prog 14 #[.pointer (some ⟨v, 0, none⟩), .slice A n c] w fun e w' => e = .returned (.tuple #[.agg (rowOf (blB K N name)), .int .i64 (blE name)]) ∧ LeavesI w w' v sp nm kn K (blN N name) S L F F := by
  unfold blB blE blN
  rw [hn]
  by_cases hk : blOk n
  · rw [if_pos hk, if_pos hk, if_pos hk]
    exact vblind_yes h A n c name hn hk.1 hk.2 hc hcm hr hN ht hg1
  · rw [if_neg hk, if_neg hk, if_neg hk]
    refine (vblind_no h.blk h.len A n c (by unfold blOk at hk; omega)).mono ?_
    rintro e w' ⟨rfl, hb⟩
    exact ⟨rfl, h.below hb, Grew.refl _ _, .of_below hb⟩
def slOk (e c n : Int) : Prop := (1 ≤ e ∧ e ≤ 1048576) ∧ NonceOk c n
instance (e c n : Int) : Decidable (slOk e c n) := by unfold slOk NonceOk; infer_instance
def slE (S : List (Nat × Nat)) (e c n : Int) : Int := if slOk e c n then (if (c.toNat, n.toNat) ∈ S then 13 else 0) else 1
def slB (K : List UInt8) (S : List (Nat × Nat)) (e c n : Int) (m : Nat) : List UInt8 := if slOk e c n then (if (c.toNat, n.toNat) ∈ S then [] else drawB K 1 (S.length + 1) (m + 8)) else []
def slS (S : List (Nat × Nat)) (e c n : Int) : List (Nat × Nat) := if slOk e c n then (if (c.toNat, n.toNat) ∈ S then S else S ++ [(c.toNat, n.toNat)]) else S
theorem slS_len (S : List (Nat × Nat)) (e c n : Int) : (slS S e c n).length ≤ S.length + 1 := by
  unfold slS
  split
  · split
    · omega
    · simp
  · omega
/-- What a sealing comes to. -/
def SealOut (w : World) (v sp nm kn : Nat) (K : List UInt8) (N : List (List UInt8)) (S : List (Nat × Nat)) (L : List SealV) (F : List Nat) (e c n : Int) (m : Nat) (r : Ending) (w' : World) : Prop :=
  ∃ A d L' F', r = .returned (.tuple #[.slice A (slB K S e c n m).length d, .int .i64 (slE S e c n)]) ∧ Rd w' w'.heap.size A (slB K S e c n m) ∧ LeavesI w w' v sp nm kn K N (slS S e c n) L' F F' ∧ L'.length ≤ L.length + 1 ∧ ∀ a, A = some a → w.heap.size ≤ a.block
theorem vseal_out {w : World} {v sp nm kn : Nat} {K : List UInt8} {N : List (List UInt8)} {S : List (Nat × Nat)} {L : List SealV} {F : List Nat} (h : VltI w v sp nm kn K N S L F) (Aw B : Option Addr) (na ca nb cb : Nat) (x b : List UInt8) (hx : x.length = na) (hb : b.length = nb) (hrx : Rd w w.heap.size Aw x) (hrb : Rd w w.heap.size B b) (hna : na ≤ 100000) (hnb : nb ≤ 100000)
    (e c n : Int) (hSl : S.length ≤ 100000) (hLl : L.length ≤ 100000) (ht : Tab w) (hg1 : 0 < w.heap.size) :
    Calls Tryd.prog 17 #[.pointer (some ⟨v, 0, none⟩), .int .i64 e, .int .i64 c, .int .i64 n, .slice Aw na ca, .slice B nb cb] w (SealOut w v sp nm kn K N S L F e c n nb) := by
  unfold SealOut slB slE slS
  by_cases hok : slOk e c n
  · simp only [if_pos hok]
    obtain ⟨⟨he1, he2⟩, hc1, hc2, hn1, hn2⟩ := hok
    obtain ⟨e, rfl⟩ : ∃ k : Nat, e = (k : Int) := ⟨e.toNat, by omega⟩
    obtain ⟨c, rfl⟩ : ∃ k : Nat, c = (k : Int) := ⟨c.toNat, by omega⟩
    obtain ⟨n, rfl⟩ : ∃ k : Nat, n = (k : Int) := ⟨n.toNat, by omega⟩
    have ck := keysOf_yes h.blk h.len e c n (by omega) (by omega) (by omega) (by omega) (by omega) (by omega) ht hg1
    simp only [Int.toNat_natCast]
    by_cases hin : (c, n) ∈ S
    · simp only [if_pos hin]
      refine (vseal_spent h.blk h.len h.spent Aw B na ca nb cb e c n (by omega) (by omega) hin ck).mono ?_
      rintro r w' ⟨rfl, hb⟩
      exact ⟨none, 0, L, F, rfl, Rd.nil, ⟨h.below hb, Grew.refl _ _, .of_below hb⟩, by omega, fun a e => by cases e⟩
    · simp only [if_neg hin]
      refine (vseal_ideal h Aw B na ca nb cb x b hx hb hrx hrb hna hnb e c n (by omega) (by omega) (by omega) hin hSl hLl ck).mono ?_
      rintro r w' ⟨A, d, F', rfl, ho, hni, hl⟩
      have hrd := ho.rd
      exact ⟨A, d, _, F', by rw [drawB_len, show 8 + (nb + 8) = nb + 16 by omega], hrd.1, hl, by simp, fun a e => (World.ownsRow.lt ho a.block (by rw [e]; rfl)).1⟩
  · simp only [if_neg hok]
    have ck : Calls Tryd.prog 35 #[.pointer (some ⟨v, 0, none⟩), .int .i64 e, .int .i64 c, .int .i64 n] w fun r w' => r = .returned noKeys ∧ Below w.heap.size w w' := by
      by_cases he : 1 ≤ e ∧ e ≤ 1048576
      · obtain ⟨e, rfl⟩ : ∃ k : Nat, e = (k : Int) := ⟨e.toNat, by omega⟩
        exact keysOf_no2 h.blk h.len e c n (by omega) (by omega) (fun h => hok ⟨he, h⟩) ht hg1
      · exact keysOf_no1 h.blk h.len e c n he
    refine (vseal_no Aw B na ca nb cb e c n ck).mono ?_
    rintro r w' ⟨rfl, hb⟩
    exact ⟨none, 0, L, F, rfl, Rd.nil, ⟨h.below hb, Grew.refl _ _, .of_below hb⟩, by omega, fun a e => by cases e⟩
/-- Two of the call's own: in one all names are changed by u. -/
structure TwoV (w : World) (va spa nma kna vb spb nmb knb : Nat) (K : List UInt8) (u : UInt8) (N : List (List UInt8)) (S : List (Nat × Nat)) (La Lb : List SealV) (Fa Fb : List Nat) (W : World) : Prop where
  a : Mine w va spa nma kna K N S La Fa W
  b : Mine w vb spb nmb knb K (N.map (xorU u)) S Lb Fb W
  dis : ∀ k ∈ Fa, k ∉ Fb
section
variable {w W W' : World} {va spa nma kna vb spb nmb knb : Nat} {K : List UInt8} {u : UInt8} {N N' : List (List UInt8)} {S S' : List (Nat × Nat)} {La Lb L' : List SealV} {Fa Fb F' : List Nat}
theorem TwoV.then_ (h : TwoV w va spa nma kna vb spb nmb knb K u N S La Lb Fa Fb W) (hb : Below W.heap.size W W') : TwoV w va spa nma kna vb spb nmb knb K u N S La Lb Fa Fb W' := ⟨h.a.then_ hb, h.b.then_ hb, h.dis⟩
/-- While one acts the other stays. -/
theorem Mine.other {v sp nm kn : Nat} {L : List SealV} {F G : List Nat} (h : Mine w v sp nm kn K N S L F W) (hu : Untouched G W W') (hG : ∀ k ∈ G, k ∉ F) (hb : Below w.heap.size w W') : Mine w v sp nm kn K N S L F W' :=
  ⟨h.vlt.untouched hu (fun k hk hm => hG k hm hk), h.own, hb⟩
end
theorem Rd.untouchedF {w W : World} {G : List Nat} {B : Nat} {A : Option Addr} {l : List UInt8} (h : Rd w B A l) (hu : Untouched G w W) (hA : ∀ a, A = some a → a.block ∉ G) : Rd W B A l := fun hn => by
  obtain ⟨g, off, e, hb, hr⟩ := h hn
  refine ⟨g, off, e, hb, fun j hj => ?_⟩
  have hrj := hr j hj
  exact (World.cell?_of_block (hu.block g (cell_lt hrj) (hA _ e))).trans hrj
theorem VAct.row_one (q : VAct) : q.row.all (·.oneCell') = true := by simp [VAct.row, Value.oneCell']
theorem eqInBY (l : List UInt8) (hl : l.length = 32) (W : World) : (Op.equalIn 10000 36 (.agg (rowOf l)) (.agg (rowOf l))).run Tryd.prog W = .ok true W := by
  have hs : ∀ W : World, (sizeOf 5).run Tryd.prog W = .ok 1 W := fun W => by
    obtain ⟨i, hi, hz, hsize, hby⟩ := info_parts info8
    simp [sizeOf, typeInfo, hi, hsize]
  have h : (Op.equalIn 10000 36 (.agg (rowOf l)) (.agg (rowOf l))).run Tryd.prog W = .ok (l == l) W := run_equalIn_bytes W 9998 36 5 32 Tryd.underlying36 Tryd.underlying5 hs l l hl hl
  rw [h, beq_self_eq_true]
theorem neqBY (l : List UInt8) (hl : l.length = 32) (W : World) : (binOp .neq 36 (.agg (rowOf l)) (.agg (rowOf l))).run Tryd.prog W = .ok (.bool false) W := by
  simp only [binOp]
  simp [Op.equal, Op.maxDepth, eqInBY l hl W, Result.andThen]
theorem xorU_step (u : UInt8) (l : List UInt8) (a : Nat) (h : a < l.length) : (xorU u (l.take a) ++ l.drop a).set a (l.getD a 0 ^^^ u) = xorU u (l.take (a + 1)) ++ l.drop (a + 1) := by
  have hl : (xorU u (l.take a)).length = a := by rw [xorU_len, List.length_take]; omega
  rw [List.set_append_right _ _ (by omega), hl, Nat.sub_self, List.drop_eq_getElem_cons h, List.set_cons_zero, List.take_succ_eq_append_getElem h]
  unfold xorU
  rw [List.map_append, List.append_assoc]
  simp [List.getD, h]
theorem xorU_get (u : UInt8) (l : List UInt8) (a : Nat) (h : a < l.length) : (xorU u (l.take a) ++ l.drop a).getD a 0 = l.getD a 0 := by
  have hl : (xorU u (l.take a)).length = a := by rw [xorU_len, List.length_take]; omega
  simp [List.getD, List.getElem?_append_right (show (xorU u (l.take a)).length ≤ a by omega), hl, List.getElem?_drop]
/-! A slice of acts. -/
def RdV (w : World) (B : Nat) (A : Option Addr) (l : List VAct) : Prop :=
  0 < l.length → ∃ b off, A = some ⟨b, off, none⟩ ∧ b < B ∧ ∀ j (h : j < l.length), (∀ t, t < 8 → w.cell? ⟨b, off + j * 8 + t, none⟩ = (l[j]).row[t]?) ∧ VActOk w B l[j]
theorem RdV.below {w w' : World} {B : Nat} {A : Option Addr} {l : List VAct} (h : RdV w B A l) (hb : Below B w w') : RdV w' B A l := fun hn => by
  obtain ⟨b, off, e, hlt, hc⟩ := h hn
  refine ⟨b, off, e, hlt, fun j hj => ?_⟩
  obtain ⟨h1, h2⟩ := hc j hj
  exact ⟨fun t ht => (hb.cell (p := ⟨b, _, none⟩) hlt).trans (h1 t ht), h2.below hb⟩
theorem RdV.more {w : World} {B C : Nat} {A : Option Addr} {l : List VAct} (h : RdV w B A l) (hB : B ≤ C) : RdV w C A l := fun hn => by
  obtain ⟨b, off, e, hlt, hc⟩ := h hn
  exact ⟨b, off, e, Nat.lt_of_lt_of_le hlt hB, fun j hj => ⟨(hc j hj).1, (hc j hj).2.more hB⟩⟩
end Go.Proofs.YtmomnfhoeabdnaaDoor

namespace Go.Proofs.YtmomnfhoeabdnaaDoor
set_option maxRecDepth 100000
open Go.ChangeShapes Go.WideShapes Go.ChangeAt Go.RowKit
set_option linter.unusedVariables false
set_option linter.unusedSimpArgs false

structure JT (i1 i2 i3 i4 s1 s2 d1 d2 : Nat) (P1 : Value → World → Prop) (P2 : Value → Value → World → Prop) (D : Nat → Bool) (a : Act) (W : World) : Prop where
  one : D i1 = true → D i2 = false → P1 (a.tmps.getD s1 undef) W
  imp : D i2 = true → D i1 = true
  both : D i2 = true → P2 (a.tmps.getD s1 undef) (a.tmps.getD s2 undef) W
  e1 : D i3 = true → D i2 = true ∧ a.tmps.getD d1 undef = a.tmps.getD s1 undef
  e2 : D i4 = true → D i2 = true ∧ a.tmps.getD d2 undef = a.tmps.getD s2 undef
section
variable {i1 i2 i3 i4 s1 s2 d1 d2 : Nat} {P1 : Value → World → Prop} {P2 : Value → Value → World → Prop} {D : Nat → Bool} {a : Act} {W W' : World}
theorem JT.other (h : JT i1 i2 i3 i4 s1 s2 d1 d2 P1 P2 D a W) (i s : Nat) (v : Value) (hi : i1 ≠ i ∧ i2 ≠ i ∧ i3 ≠ i ∧ i4 ≠ i) (hs : s1 ≠ s ∧ s2 ≠ s ∧ d1 ≠ s ∧ d2 ≠ s) : JT i1 i2 i3 i4 s1 s2 d1 d2 P1 P2 (fun j => decide (j = i) || D j) (a.put (some s) v) W := by
  refine ⟨?_, ?_, ?_, ?_, ?_⟩
  · rw [orf_ne hi.1, orf_ne hi.2.1, put_otherY hs.1]; exact h.one
  · rw [orf_ne hi.1, orf_ne hi.2.1]; exact h.imp
  · rw [orf_ne hi.2.1, put_otherY hs.1, put_otherY hs.2.1]; exact h.both
  · rw [orf_ne hi.2.1, orf_ne hi.2.2.1, put_otherY hs.1, put_otherY hs.2.2.1]; exact h.e1
  · rw [orf_ne hi.2.1, orf_ne hi.2.2.2, put_otherY hs.2.1, put_otherY hs.2.2.2]; exact h.e2
theorem JT.first (h : JT i1 i2 i3 i4 s1 s2 d1 d2 P1 P2 D a W) (v : Value) (hL : D i1 = false) (hi : i2 ≠ i1 ∧ i3 ≠ i1 ∧ i4 ≠ i1) (hsz : s1 < a.tmps.size) (hp : P1 v W') : JT i1 i2 i3 i4 s1 s2 d1 d2 P1 P2 (fun j => decide (j = i1) || D j) (a.put (some s1) v) W' := by
  have h2 : D i2 = false := by
    cases e : D i2 with
    | false => rfl
    | true => rw [h.imp e] at hL; cases hL
  have h3 : D i3 = false := by
    cases e : D i3 with
    | false => rfl
    | true => rw [(h.e1 e).1] at h2; cases h2
  have h4 : D i4 = false := by
    cases e : D i4 with
    | false => rfl
    | true => rw [(h.e2 e).1] at h2; cases h2
  refine ⟨fun _ _ => ?_, fun e => ?_, fun e => ?_, fun e => ?_, fun e => ?_⟩
  · rw [put_selfY hsz]; exact hp
  · rw [orf_ne hi.1, h2] at e; cases e
  · rw [orf_ne hi.1, h2] at e; cases e
  · rw [orf_ne hi.2.1, h3] at e; cases e
  · rw [orf_ne hi.2.2, h4] at e; cases e
theorem JT.second (h : JT i1 i2 i3 i4 s1 s2 d1 d2 P1 P2 D a W) (v : Value) (hL : D i2 = false) (h1 : D i1 = true) (hi : i1 ≠ i2 ∧ i3 ≠ i2 ∧ i4 ≠ i2) (hs : s1 ≠ s2) (hsz : s2 < a.tmps.size) (hp : P1 (a.tmps.getD s1 undef) W → P2 (a.tmps.getD s1 undef) v W') : JT i1 i2 i3 i4 s1 s2 d1 d2 P1 P2 (fun j => decide (j = i2) || D j) (a.put (some s2) v) W' := by
  have h3 : D i3 = false := by
    cases e : D i3 with
    | false => rfl
    | true => rw [(h.e1 e).1] at hL; cases hL
  have h4 : D i4 = false := by
    cases e : D i4 with
    | false => rfl
    | true => rw [(h.e2 e).1] at hL; cases hL
  refine ⟨fun _ e => ?_, fun e => ?_, fun e => ?_, fun e => ?_, fun e => ?_⟩
  · rw [orf_eq] at e; cases e
  · rw [orf_ne hi.1]; exact h1
  · rw [put_selfY hsz, put_otherY hs]; exact hp (h.one h1 hL)
  · rw [orf_ne hi.2.1, h3] at e; cases e
  · rw [orf_ne hi.2.2, h4] at e; cases e
theorem JT.third (h : JT i1 i2 i3 i4 s1 s2 d1 d2 P1 P2 D a W) (h2 : D i2 = true) (hi : i1 ≠ i3 ∧ i2 ≠ i3 ∧ i4 ≠ i3) (hs : s1 ≠ d1 ∧ s2 ≠ d1 ∧ d2 ≠ d1) (hsz : d1 < a.tmps.size) : JT i1 i2 i3 i4 s1 s2 d1 d2 P1 P2 (fun j => decide (j = i3) || D j) (a.put (some d1) (a.tmps.getD s1 undef)) W := by
  refine ⟨?_, ?_, ?_, fun _ => ?_, ?_⟩
  · rw [orf_ne hi.1, orf_ne hi.2.1, put_otherY hs.1]; exact h.one
  · rw [orf_ne hi.1, orf_ne hi.2.1]; exact h.imp
  · rw [orf_ne hi.2.1, put_otherY hs.1, put_otherY hs.2.1]; exact h.both
  · rw [orf_ne hi.2.1, put_selfY hsz, put_otherY hs.1]; exact ⟨h2, rfl⟩
  · rw [orf_ne hi.2.1, orf_ne hi.2.2, put_otherY hs.2.1, put_otherY hs.2.2]; exact h.e2
theorem JT.fourth (h : JT i1 i2 i3 i4 s1 s2 d1 d2 P1 P2 D a W) (h2 : D i2 = true) (hi : i1 ≠ i4 ∧ i2 ≠ i4 ∧ i3 ≠ i4) (hs : s1 ≠ d2 ∧ s2 ≠ d2 ∧ d1 ≠ d2) (hsz : d2 < a.tmps.size) : JT i1 i2 i3 i4 s1 s2 d1 d2 P1 P2 (fun j => decide (j = i4) || D j) (a.put (some d2) (a.tmps.getD s2 undef)) W := by
  refine ⟨?_, ?_, ?_, ?_, fun _ => ?_⟩
  · rw [orf_ne hi.1, orf_ne hi.2.1, put_otherY hs.1]; exact h.one
  · rw [orf_ne hi.1, orf_ne hi.2.1]; exact h.imp
  · rw [orf_ne hi.2.1, put_otherY hs.1, put_otherY hs.2.1]; exact h.both
  · rw [orf_ne hi.2.1, orf_ne hi.2.2, put_otherY hs.1, put_otherY hs.2.2]; exact h.e1
  · rw [orf_ne hi.2.1, put_selfY hsz, put_otherY hs.2.1]; exact ⟨h2, rfl⟩
theorem JT.start (W : World) : JT i1 i2 i3 i4 s1 s2 d1 d2 P1 P2 (fun _ => false) a W :=
  ⟨fun e => Bool.noConfusion e, fun e => Bool.noConfusion e, fun e => Bool.noConfusion e, fun e => Bool.noConfusion e, fun e => Bool.noConfusion e⟩
end
/-- One ideal vault, and two that share nothing. -/
def IV1 (b : Nat) (K : List UInt8) (u : Value) (W : World) : Prop := ∃ v sp nm kn F, u = .pointer (some ⟨v, 0, none⟩) ∧ VltI W v sp nm kn K [] [] [] F ∧ ∀ k ∈ F, b ≤ k
def IV2 (b : Nat) (K : List UInt8) (u u' : Value) (W : World) : Prop := ∃ va spa nma kna Fa vb spb nmb knb Fb, u = .pointer (some ⟨va, 0, none⟩) ∧ VltI W va spa nma kna K [] [] [] Fa ∧ (∀ k ∈ Fa, b ≤ k) ∧ u' = .pointer (some ⟨vb, 0, none⟩) ∧ VltI W vb spb nmb knb K [] [] [] Fb ∧ (∀ k ∈ Fb, b ≤ k) ∧ ∀ k ∈ Fa, k ∉ Fb
theorem IV2.of {b : Nat} {K : List UInt8} {u u' : Value} {W W' : World} (h : IV1 b K u W) (hb : Below W.heap.size W W') (h' : IV1 W.heap.size K u' W') (hW : b ≤ W.heap.size) : IV2 b K u u' W' := by
  obtain ⟨va, spa, nma, kna, Fa, rfl, ha, oa⟩ := h
  obtain ⟨vb, spb, nmb, knb, Fb, rfl, hb', ob⟩ := h'
  exact ⟨va, spa, nma, kna, Fa, vb, spb, nmb, knb, Fb, rfl, ha.below hb, oa, rfl, hb', fun k hk => Nat.le_trans hW (ob k hk), fun k hk hm => by have h1 := ha.hF k hk; have h2 := ob k hm; omega⟩
/-- One own slice, and two that share nothing. -/
def OW1 (b n : Nat) (l : List UInt8) (u : Value) (W : World) : Prop := ∃ A c, u = .slice A n c ∧ Own8 W b (.slice A n c) l
def OW2 (b n : Nat) (l : List UInt8) (u u' : Value) (W : World) : Prop := ∃ A c A' c', u = .slice A n c ∧ Own8 W b (.slice A n c) l ∧ u' = .slice A' n c' ∧ Own8 W b (.slice A' n c') l ∧ ∀ a a', A = some a → A' = some a' → a.block ≠ a'.block
theorem OW2.of {b n : Nat} {l : List UInt8} {u u' : Value} {W W' : World} (h : OW1 b n l u W) (hb : Below W.heap.size W W') (h' : OW1 W.heap.size n l u' W') (hW : b ≤ W.heap.size) : OW2 b n l u u' W' := by
  obtain ⟨A, c, rfl, ho⟩ := h
  obtain ⟨A', c', rfl, ho'⟩ := h'
  refine ⟨A, c, A', c', rfl, ho.below hb (Nat.le_refl _), rfl, ho'.lower hW, fun a a' ea ea' e => ?_⟩
  have h1 := (World.ownsRow.lt ho a.block (by rw [ea]; rfl)).2
  have h2 := (World.ownsRow.lt ho' a'.block (by rw [ea']; rfl)).1
  omega
end Go.Proofs.YtmomnfhoeabdnaaDoor

namespace Go.Proofs.YtmomnfhoeabdnaaDoor
set_option maxRecDepth 100000
open Go.ChangeShapes Go.WideShapes Go.ChangeAt Go.RowKit
set_option linter.unusedVariables false
set_option linter.unusedSimpArgs false

theorem ordN_inj {N : List (List UInt8)} {s t : List UInt8} (hs : s ∈ N) (h : ordN N s = ordN N t) : s = t := by
  unfold ordN at h
  have h1 := List.idxOf_lt_length_of_mem hs
  have e1 : N[N.idxOf s] = s := List.getElem_idxOf h1
  have h2 : N.idxOf t < N.length := by omega
  have e2 : N[N.idxOf t] = t := List.getElem_idxOf h2
  have e : N.idxOf s = N.idxOf t := by omega
  rw [← e1, ← e2]
  simp only [e]
theorem ordN_add {N : List (List UInt8)} {s t : List UInt8} (h : t ∈ N) : ordN (addNm N s) t = ordN N t := by
  unfold addNm
  split
  · rfl
  · exact ordN_snoc h
theorem mem_addNm (N : List (List UInt8)) (s : List UInt8) : s ∈ addNm N s := by
  unfold addNm
  split
  · assumption
  · simp
theorem mem_addNm_of {N : List (List UInt8)} {s t : List UInt8} (h : t ∈ N) : t ∈ addNm N s := by
  unfold addNm
  split
  · exact h
  · exact List.mem_append_left _ h
theorem ordN_le {N : List (List UInt8)} {s : List UInt8} : ordN N s ≤ N.length + 1 := by
  unfold ordN
  have := (List.idxOf_le_length (a := s) (l := N))
  omega
theorem highB7 (n : Nat) (h : n < 256) : (highB 8 n).getD 7 0 = UInt8.ofNat n := by
  have : ∀ k : Fin 256, (highB 8 k.val).getD 7 0 = UInt8.ofNat k.val := by decide +kernel
  exact this ⟨n, h⟩
theorem drawB_inj {K : List UInt8} {i j : Nat} (hi : i < 256) (hj : j < 256) (h : drawB K 0 i 24 = drawB K 0 j 24) : i = j := by
  have e : (drawB K 0 i 24).getD 7 0 = (drawB K 0 j 24).getD 7 0 := by rw [h]
  rw [drawB_7, drawB_7, highB7 i hi, highB7 j hj] at e
  have e2 := congrArg UInt8.toNat e
  simp at e2
  omega
/-- What a name has for a blind. -/
def blN1 (K : List UInt8) (N : List (List UInt8)) (s : List UInt8) : List UInt8 := drawB K 0 (ordN N s) 24
theorem blN1_len (K : List UInt8) (N : List (List UInt8)) (s : List UInt8) : (blN1 K N s).length = 32 := drawB_len _ _ _ _
theorem blN1_iff {K : List UInt8} {N : List (List UInt8)} {s t : List UInt8} (hN : N.length ≤ 100) (hs : s ∈ N) : (blN1 K N s = blN1 K N t) ↔ s = t := by
  constructor
  · intro h
    have h1 := @ordN_le N s
    have h2 := @ordN_le N t
    exact ordN_inj hs (drawB_inj (by omega) (by omega) h)
  · intro h
    rw [h]
theorem blN1_map (K : List UInt8) {N Ns : List (List UInt8)} (s : List UInt8) (h : ∀ t ∈ Ns, t ∈ N) : Ns.map (blN1 K N) = Ns.map (blN1 K (addNm N s)) := by
  apply List.map_congr_left
  intro t ht
  unfold blN1
  rw [ordN_add (h t ht)]

def nmC (l : List (List UInt8)) : List Value := l.map fun s => .string (strOf s)
def blC (l : List (List UInt8)) : List Value := l.flatMap fun D => (rowOf D).toList
theorem nmC_len (l : List (List UInt8)) : (nmC l).length = l.length := by simp [nmC]
theorem blC_len : ∀ (l : List (List UInt8)), (∀ D ∈ l, D.length = 32) → (blC l).length = l.length * 32
  | [], _ => rfl
  | D :: l, h => by
    have ih := blC_len l (fun E hE => h E (List.mem_cons_of_mem _ hE))
    have e : blC (D :: l) = (rowOf D).toList ++ blC l := rfl
    have h32 : (rowOf D).toList.length = 32 := by rw [Array.length_toList, rowOf_size, h D (by simp)]
    rw [e, List.length_append, ih, List.length_cons, h32]
    omega
theorem blC_at : ∀ (l : List (List UInt8)) (k j : Nat) (h : k < l.length), (∀ D ∈ l, D.length = 32) → j < 32 → (blC l)[k * 32 + j]? = (rowOf l[k])[j]?
  | [], _, _, h, _, _ => absurd h (by simp)
  | D :: l, 0, j, _, h, hj => by
    have e : blC (D :: l) = (rowOf D).toList ++ blC l := rfl
    have h32 : (rowOf D).toList.length = 32 := by rw [Array.length_toList, rowOf_size, h D (by simp)]
    rw [e, List.getElem?_append_left (by omega)]
    simp
  | D :: l, k + 1, j, hk, h, hj => by
    have ih := blC_at l k j (by simpa using hk) (fun E hE => h E (List.mem_cons_of_mem _ hE)) hj
    have e : blC (D :: l) = (rowOf D).toList ++ blC l := rfl
    have h32 : (rowOf D).toList.length = 32 := by rw [Array.length_toList, rowOf_size, h D (by simp)]
    rw [e, List.getElem?_append_right (by omega), h32, show (k + 1) * 32 + j - 32 = k * 32 + j by omega, ih]
    simp
/-- v is a slice of strings (of blinds) of the call's own. -/
def OwnN (w : World) (base : Nat) (v : Value) (l : List (List UInt8)) : Prop := w.ownsRow base 9 1 v l.length (nmC l)
def OwnL (w : World) (base : Nat) (v : Value) (l : List (List UInt8)) : Prop := w.ownsRow base 36 32 v l.length (blC l) ∧ ∀ D ∈ l, D.length = 32
section
variable {w w' : World} {base : Nat} {v : Value} {l : List (List UInt8)} {F : List Nat}
theorem rowKeep {t : TypeId} {sz n : Nat} {xs : List Value} (h : w.ownsRow base t sz v n xs) (hu : Untouched F w w') (hF : ∀ g, v.ownBlock = some g → g ∉ F) : w'.ownsRow base t sz v n xs := by
  have hlt := World.ownsRow.lt h
  refine ⟨h.1, ?_⟩
  rcases h.2 with hn | ⟨g, cap, cur, rfl, hb, hg, rest⟩
  · exact .inl hn
  · exact .inr ⟨g, cap, cur, rfl, hb, (hu.block g (hlt g rfl).2 (hF g rfl)).trans hg, rest⟩
theorem rowForm {t : TypeId} {sz n : Nat} {xs : List Value} (h : w.ownsRow base t sz v n xs) : ∃ A c, v = .slice A n c := by
  rcases h.2 with ⟨hv, h0⟩ | ⟨g, cap, cur, hv, _⟩
  · exact ⟨none, 0, by rw [h0]; exact hv⟩
  · exact ⟨_, cap, hv⟩
theorem OwnN.nil_ (w : World) (base : Nat) : OwnN w base (.slice none 0 0) [] := World.ownsRow_nil w base 9 1
theorem OwnL.nil_ (w : World) (base : Nat) : OwnL w base (.slice none 0 0) [] := ⟨World.ownsRow_nil w base 36 32, fun D h => (by cases h)⟩
theorem OwnN.keep (h : OwnN w base v l) (hu : Untouched F w w') (hF : ∀ g, v.ownBlock = some g → g ∉ F) : OwnN w' base v l := rowKeep h hu hF
theorem OwnL.keep (h : OwnL w base v l) (hu : Untouched F w w') (hF : ∀ g, v.ownBlock = some g → g ∉ F) : OwnL w' base v l := ⟨rowKeep h.1 hu hF, h.2⟩
theorem OwnN.below (h : OwnN w base v l) (hb : Below w.heap.size w w') : OwnN w' base v l := h.keep (F := []) (.of_below hb) fun _ _ => by simp
theorem OwnL.below (h : OwnL w base v l) (hb : Below w.heap.size w w') : OwnL w' base v l := h.keep (F := []) (.of_below hb) fun _ _ => by simp
theorem OwnN.form (h : OwnN w base v l) : ∃ A c, v = .slice A l.length c := rowForm h
theorem OwnL.form (h : OwnL w base v l) : ∃ A c, v = .slice A l.length c := rowForm h.1
theorem OwnN.cells {A : Option Addr} {n c : Nat} (h : OwnN w base (.slice A n c) l) (k : Nat) (hk : k < l.length) : ∃ g, A = some ⟨g, 0, none⟩ ∧ w.cell? ⟨g, k, none⟩ = some (.string (strOf l[k])) := by
  have h0 := h
  rcases h.2 with ⟨hv, hz⟩ | ⟨g, cap, cur, hv, _⟩
  · omega
  · injection hv with e1 e2 e3
    subst e1 e2 e3
    refine ⟨g, rfl, ?_⟩
    rw [World.ownsRow.cellAt h0 k (by omega)]
    simp [nmC, hk]
theorem OwnL.cells {A : Option Addr} {n c : Nat} (h : OwnL w base (.slice A n c) l) (k : Nat) (hk : k < l.length) : ∃ g, A = some ⟨g, 0, none⟩ ∧ ∀ j, j < (rowOf l[k]).size → w.cell? ⟨g, k * 32 + j, none⟩ = (rowOf l[k])[j]? := by
  have h0 := h.1
  have h32 := h.2 l[k] (List.getElem_mem hk)
  rcases h.1.2 with ⟨hv, hz⟩ | ⟨g, cap, cur, hv, _⟩
  · omega
  · injection hv with e1 e2 e3
    subst e1 e2 e3
    refine ⟨g, rfl, fun j hj => ?_⟩
    rw [rowOf_size, h32] at hj
    have hl := blC_len l h.2
    rw [World.ownsRow.cellAt h0 (k * 32 + j) (by omega)]
    exact blC_at l k j hk h.2 hj
end
theorem apartNL {w : World} {b b' : Nat} {u v : Value} {l m : List (List UInt8)} (h : OwnN w b u l) (h2 : OwnL w b' v m) : ∀ k k', u.ownBlock = some k → v.ownBlock = some k' → k ≠ k' := fun k k' e e' hkk => by
  subst hkk
  rcases h.2 with ⟨rfl, _⟩ | ⟨g, cap, cur, rfl, _, hh, _⟩
  · cases e
  · rcases h2.1.2 with ⟨rfl, _⟩ | ⟨g', cap', cur', rfl, _, hh', _⟩
    · cases e'
    · injection e with e
      injection e' with e'
      simp only at e e'
      subst e
      subst e'
      rw [hh] at hh'
      injection hh' with hh'
      injection hh' with _ h3 _
      exact absurd h3 (by decide)
/-- The block of a value. -/
def obL (v : Value) : List Nat := v.ownBlock.toList
theorem mem_obL {v : Value} {k : Nat} : k ∈ obL v ↔ v.ownBlock = some k := by simp [obL]
theorem OwnL.grownN {w w' : World} {b b' : Nat} {u v : Value} {l m : List (List UInt8)} (h2 : OwnL w b' v m) (h : OwnN w b u l) (hg : w.grownBy w' u.ownBlock) : OwnL w' b' v m :=
  h2.keep (F := obL u) (.of_grown hg fun k e => mem_obL.2 e) fun g e hm => apartNL h h2 g g (mem_obL.1 hm) e rfl
theorem OwnN.grownL {w w' : World} {b b' : Nat} {u v : Value} {l m : List (List UInt8)} (h : OwnN w b u l) (h2 : OwnL w b' v m) (hg : w.grownBy w' v.ownBlock) : OwnN w' b u l :=
  h.keep (F := obL v) (.of_grown hg fun k e => mem_obL.2 e) fun g e hm => apartNL h h2 g g e (mem_obL.1 hm) rfl
/-- The block is the elder one's or a new one. -/
def FrB (v : Value) (B : Nat) (u : Value) : Prop := u.ownBlock = v.ownBlock ∨ ∃ k, u.ownBlock = some k ∧ B ≤ k
section
variable {w w' : World} {base : Nat} {v : Value} {l : List (List UInt8)} {F : List Nat}
theorem infoStY : (Tryd.prog.info? 9).map (fun i => (i.zero, i.size, i.bytes)) = some (some (.string ⟨#[]⟩), 1, 16) := by kernel_rfl
theorem infoBlY : (Tryd.prog.info? 36).map (fun i => (i.size, i.bytes, i.zero.map (·.cells.size))) = some (32, 32, some 32) := by kernel_rfl
theorem rowOf_one (D : List UInt8) : ∀ u ∈ (rowOf D).toList, u.oneCell' = true := fun u hu => by
  have h := bytes_one D
  rw [← Array.all_toList] at h
  exact List.all_eq_true.1 h u hu
end
theorem eqBY2 (l m : List UInt8) (hl : l.length = 32) (hm : m.length = 32) (W : World) : (Op.equalIn 10000 36 (.agg (rowOf l)) (.agg (rowOf m))).run Tryd.prog W = .ok (l == m) W := by
  have hs : ∀ W : World, (sizeOf 5).run Tryd.prog W = .ok 1 W := fun W => by
    obtain ⟨i, hi, hz, hsize, hby⟩ := info_parts info8
    simp [sizeOf, typeInfo, hi, hsize]
  exact run_equalIn_bytes W 9998 36 5 32 Tryd.underlying36 Tryd.underlying5 hs l m hl hm
theorem eqlBY2 (l m : List UInt8) (hl : l.length = 32) (hm : m.length = 32) (W : World) : (binOp .eql 36 (.agg (rowOf l)) (.agg (rowOf m))).run Tryd.prog W = .ok (.bool (l == m)) W := by
  simp only [binOp]
  simp [Op.equal, Op.maxDepth, eqBY2 l m hl hm W, Result.andThen]
theorem ordN_self (N : List (List UInt8)) (s : List UInt8) : ordN (addNm N s) s = ordN N s := by
  unfold addNm
  split
  · rfl
  · rename_i h
    rw [ordN_new h]
    unfold ordN
    rw [List.idxOf_append, if_neg h]
    simp
/-- Two chains of one call each, in whichever order, and a name for what each gave. -/
structure JU (i1 i2 i3 i4 s1 s2 d1 d2 : Nat) (P0 Q0 : World → Prop) (P1 Q1 : Value → World → Prop) (D : Nat → Bool) (a : Act) (W : World) : Prop where
  p0 : D i1 = false → P0 W
  p1 : D i1 = true → P1 (a.tmps.getD s1 undef) W
  q0 : D i2 = false → Q0 W
  q1 : D i2 = true → Q1 (a.tmps.getD s2 undef) W
  e1 : D i3 = true → D i1 = true ∧ a.tmps.getD d1 undef = a.tmps.getD s1 undef
  e2 : D i4 = true → D i2 = true ∧ a.tmps.getD d2 undef = a.tmps.getD s2 undef
section
variable {i1 i2 i3 i4 s1 s2 d1 d2 : Nat} {P0 Q0 : World → Prop} {P1 Q1 : Value → World → Prop} {D : Nat → Bool} {a : Act} {W W' : World}
theorem JU.other (h : JU i1 i2 i3 i4 s1 s2 d1 d2 P0 Q0 P1 Q1 D a W) (i s : Nat) (v : Value) (hi : i1 ≠ i ∧ i2 ≠ i ∧ i3 ≠ i ∧ i4 ≠ i) (hs : s1 ≠ s ∧ s2 ≠ s ∧ d1 ≠ s ∧ d2 ≠ s)
    (k1 : P0 W → P0 W') (k2 : Q0 W → Q0 W') (k3 : ∀ u, P1 u W → P1 u W') (k4 : ∀ u, Q1 u W → Q1 u W') : JU i1 i2 i3 i4 s1 s2 d1 d2 P0 Q0 P1 Q1 (fun j => decide (j = i) || D j) (a.put (some s) v) W' := by
  refine ⟨?_, ?_, ?_, ?_, ?_, ?_⟩
  · rw [orf_ne hi.1]; exact fun e => k1 (h.p0 e)
  · rw [orf_ne hi.1, put_otherY hs.1]; exact fun e => k3 _ (h.p1 e)
  · rw [orf_ne hi.2.1]; exact fun e => k2 (h.q0 e)
  · rw [orf_ne hi.2.1, put_otherY hs.2.1]; exact fun e => k4 _ (h.q1 e)
  · rw [orf_ne hi.1, orf_ne hi.2.2.1, put_otherY hs.1, put_otherY hs.2.2.1]; exact h.e1
  · rw [orf_ne hi.2.1, orf_ne hi.2.2.2, put_otherY hs.2.1, put_otherY hs.2.2.2]; exact h.e2
theorem JU.same (h : JU i1 i2 i3 i4 s1 s2 d1 d2 P0 Q0 P1 Q1 D a W) (i s : Nat) (v : Value) (hi : i1 ≠ i ∧ i2 ≠ i ∧ i3 ≠ i ∧ i4 ≠ i) (hs : s1 ≠ s ∧ s2 ≠ s ∧ d1 ≠ s ∧ d2 ≠ s) : JU i1 i2 i3 i4 s1 s2 d1 d2 P0 Q0 P1 Q1 (fun j => decide (j = i) || D j) (a.put (some s) v) W :=
  h.other i s v hi hs (fun x => x) (fun x => x) (fun _ x => x) (fun _ x => x)
theorem JU.first (h : JU i1 i2 i3 i4 s1 s2 d1 d2 P0 Q0 P1 Q1 D a W) (v : Value) (hL : D i1 = false) (hi : i2 ≠ i1 ∧ i3 ≠ i1 ∧ i4 ≠ i1) (hs : s2 ≠ s1 ∧ d2 ≠ s1) (hsz : s1 < a.tmps.size) (hp : P0 W → P1 v W') (k2 : Q0 W → Q0 W') (k4 : ∀ u, Q1 u W → Q1 u W') :
    JU i1 i2 i3 i4 s1 s2 d1 d2 P0 Q0 P1 Q1 (fun j => decide (j = i1) || D j) (a.put (some s1) v) W' := by
  have h3 : D i3 = false := by
    cases e : D i3 with
    | false => rfl
    | true => rw [(h.e1 e).1] at hL; cases hL
  refine ⟨fun e => ?_, fun _ => ?_, ?_, ?_, fun e => ?_, ?_⟩
  · rw [orf_eq] at e; cases e
  · rw [put_selfY hsz]; exact hp (h.p0 hL)
  · rw [orf_ne hi.1]; exact fun e => k2 (h.q0 e)
  · rw [orf_ne hi.1, put_otherY hs.1]; exact fun e => k4 _ (h.q1 e)
  · rw [orf_ne hi.2.1, h3] at e; cases e
  · rw [orf_ne hi.1, orf_ne hi.2.2, put_otherY hs.1, put_otherY hs.2]; exact h.e2
theorem JU.second (h : JU i1 i2 i3 i4 s1 s2 d1 d2 P0 Q0 P1 Q1 D a W) (v : Value) (hL : D i2 = false) (hi : i1 ≠ i2 ∧ i3 ≠ i2 ∧ i4 ≠ i2) (hs : s1 ≠ s2 ∧ d1 ≠ s2) (hsz : s2 < a.tmps.size) (hp : Q0 W → Q1 v W') (k1 : P0 W → P0 W') (k3 : ∀ u, P1 u W → P1 u W') :
    JU i1 i2 i3 i4 s1 s2 d1 d2 P0 Q0 P1 Q1 (fun j => decide (j = i2) || D j) (a.put (some s2) v) W' := by
  have h4 : D i4 = false := by
    cases e : D i4 with
    | false => rfl
    | true => rw [(h.e2 e).1] at hL; cases hL
  refine ⟨?_, ?_, fun e => ?_, fun _ => ?_, ?_, fun e => ?_⟩
  · rw [orf_ne hi.1]; exact fun e => k1 (h.p0 e)
  · rw [orf_ne hi.1, put_otherY hs.1]; exact fun e => k3 _ (h.p1 e)
  · rw [orf_eq] at e; cases e
  · rw [put_selfY hsz]; exact hp (h.q0 hL)
  · rw [orf_ne hi.1, orf_ne hi.2.1, put_otherY hs.1, put_otherY hs.2]; exact h.e1
  · rw [orf_ne hi.2.2, h4] at e; cases e
theorem JU.third (h : JU i1 i2 i3 i4 s1 s2 d1 d2 P0 Q0 P1 Q1 D a W) (h1 : D i1 = true) (hi : i1 ≠ i3 ∧ i2 ≠ i3 ∧ i4 ≠ i3) (hs : s1 ≠ d1 ∧ s2 ≠ d1 ∧ d2 ≠ d1) (hsz : d1 < a.tmps.size) : JU i1 i2 i3 i4 s1 s2 d1 d2 P0 Q0 P1 Q1 (fun j => decide (j = i3) || D j) (a.put (some d1) (a.tmps.getD s1 undef)) W := by
  refine ⟨?_, ?_, ?_, ?_, fun _ => ?_, ?_⟩
  · rw [orf_ne hi.1]; exact h.p0
  · rw [orf_ne hi.1, put_otherY hs.1]; exact h.p1
  · rw [orf_ne hi.2.1]; exact h.q0
  · rw [orf_ne hi.2.1, put_otherY hs.2.1]; exact h.q1
  · rw [orf_ne hi.1, put_selfY hsz, put_otherY hs.1]; exact ⟨h1, rfl⟩
  · rw [orf_ne hi.2.1, orf_ne hi.2.2, put_otherY hs.2.1, put_otherY hs.2.2]; exact h.e2
theorem JU.fourth (h : JU i1 i2 i3 i4 s1 s2 d1 d2 P0 Q0 P1 Q1 D a W) (h2 : D i2 = true) (hi : i1 ≠ i4 ∧ i2 ≠ i4 ∧ i3 ≠ i4) (hs : s1 ≠ d2 ∧ s2 ≠ d2 ∧ d1 ≠ d2) (hsz : d2 < a.tmps.size) : JU i1 i2 i3 i4 s1 s2 d1 d2 P0 Q0 P1 Q1 (fun j => decide (j = i4) || D j) (a.put (some d2) (a.tmps.getD s2 undef)) W := by
  refine ⟨?_, ?_, ?_, ?_, ?_, fun _ => ?_⟩
  · rw [orf_ne hi.1]; exact h.p0
  · rw [orf_ne hi.1, put_otherY hs.1]; exact h.p1
  · rw [orf_ne hi.2.1]; exact h.q0
  · rw [orf_ne hi.2.1, put_otherY hs.2.1]; exact h.q1
  · rw [orf_ne hi.1, orf_ne hi.2.2, put_otherY hs.1, put_otherY hs.2.2]; exact h.e1
  · rw [orf_ne hi.2.1, put_selfY hsz, put_otherY hs.2.1]; exact ⟨h2, rfl⟩
theorem JU.start (hp : P0 W) (hq : Q0 W) : JU i1 i2 i3 i4 s1 s2 d1 d2 P0 Q0 P1 Q1 (fun _ => false) a W :=
  ⟨fun _ => hp, fun e => Bool.noConfusion e, fun _ => hq, fun e => Bool.noConfusion e, fun e => Bool.noConfusion e, fun e => Bool.noConfusion e⟩
end
end Go.Proofs.YtmomnfhoeabdnaaDoor
