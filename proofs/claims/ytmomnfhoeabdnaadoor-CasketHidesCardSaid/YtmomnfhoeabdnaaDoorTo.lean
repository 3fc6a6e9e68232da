/-
  What the laws through the layers begin with: stands, cut.
-/
import Derived.Test.YtmomnfhoeabdnaaDoorEd
import Derived.Test.YtmomnfhoeabdnaaDoorHM
import Derived.Test.YtmomnfhoeabdnaaDoorLc
import Derived.Test.YtmomnfhoeabdnaaDoorOa
namespace Go.Proofs.YtmomnfhoeabdnaaDoor
set_option maxRecDepth 100000
open Go.ChangeShapes Go.WideShapes Go.ChangeAt Go.RowKit
set_option linter.unusedVariables false
set_option linter.unusedSimpArgs false

theorem hidt_ {p : Prop} (h : p) : Hid p := h
theorem parts_1 {W : World} {h n1 c1 : Nat} {A1 : Option Addr} {X : List UInt8} (hb : Bk W h 27 #[.slice A1 n1 c1]) (hn1 : X.length = n1) (hX : Rd W W.heap.size A1 X) (hc1 : n1 ≤ c1) (hm1 : c1 ≤ 9223372036854775807) : Parts W W.heap.size (some ⟨h, 0, none⟩) [X] := by
  subst hn1
  have h0 := hb.cell 0
  simp only [List.getElem?_toArray, List.getElem?_cons_zero] at h0
  refine fun _ => ⟨h, 0, rfl, hb.lt, fun j hj => ?_⟩
  have hj3 : j < 1 := hj
  obtain rfl : j = 0 := by omega
  exact ⟨_, _, h0, hX, hc1, hm1⟩
theorem sha_abc3 : ((sha [97, 98, 99]).getD 0 0).toNat = 186 ∧ ((sha [97, 98, 99]).getD 1 0).toNat = 120 ∧ ((sha [97, 98, 99]).getD 31 0).toNat = 173 := by decide +kernel

set_option maxRecDepth 100000 in
set_option maxHeartbeats 2000000 in
theorem stands_any (w : World) (ht : Tab w) (hg1 : 0 < w.heap.size) : Calls Tryd.prog 5 #[] w fun e w' => e = .returned (.bool true) ∧ Below w.heap.size w w' := by
  have hz := z32
  have k1 := Lib.run_convert_bytes_const (P := Tryd.prog) w 27 5 #[.int .u8 97, .int .u8 98, .int .u8 99] 3 3 Tryd.underlying27 Tryd.underlying5
  obtain ⟨w1, hw1⟩ : ∃ w1, w.alloc (.cells #[.int .u8 97, .int .u8 98, .int .u8 99] 5 (3, 4)) = w1 := ⟨_, rfl⟩
  have B1 : Below w.heap.size w w1 := by rw [← hw1]; exact (Below.refl _ _).alloc (Nat.le_refl _) _
  have R1 : Rd w1 (w.heap.size + 1) (some ⟨w.heap.size, 0, none⟩) [97, 98, 99] := by
    have h := rd_mark w [97, 98, 99] (3, 4)
    rw [show rowOf [97, 98, 99] = #[.int .u8 97, .int .u8 98, .int .u8 99] from rfl, hw1] at h
    exact h
  have s1 : w1.heap.size = w.heap.size + 1 := by rw [← hw1]; simp
  obtain ⟨w2, hw2⟩ : ∃ w2, w1.alloc (.cells #[.slice (some ⟨w.heap.size, 0, none⟩) 3 3] 27) = w2 := ⟨_, rfl⟩
  have B2 : Below w1.heap.size w1 w2 := by rw [← hw2]; exact (Below.refl _ _).alloc (Nat.le_refl _) _
  have K2 : Bk w2 (w.heap.size + 1) 27 #[.slice (some ⟨w.heap.size, 0, none⟩) 3 3] := by rw [← s1, ← hw2]; exact Bk.new w1 _ _
  have X2 := hidt_ (B1.trans (B2.mono (by omega)))
  have cs := sum_any (some ⟨w.heap.size + 1, 0, none⟩) 1 1 [[97, 98, 99]] w2 rfl (parts_1 K2 rfl ((R1.below (B2.mono (by omega))).more (by have := B2.size; omega)) (Nat.le_refl _) (by omega)) (by omega) (by simp) (fun t h => (X2.out.cell (p := ⟨_, t, none⟩) hg1).trans (ht t h)) (Nat.lt_of_lt_of_le hg1 X2.out.size)
  rw [show ([[97, 98, 99]] : List (List UInt8)).flatten = [97, 98, 99] from rfl] at cs
  have LD := hidt_ (sha_len [97, 98, 99])
  obtain ⟨d0, d1, d31⟩ := sha_abc3
  have D0 := hidt_ d0
  have D1 := hidt_ d1
  have D31 := hidt_ d31
  clear d0 d1 d31
  generalize sha [97, 98, 99] = dg at *
  have I := hidt_ (show (Tryd.prog.info? 25).map (·.size) = some (rowOf dg).size by rw [rowOf_size, LD.out]; exact i32_)
  have Q := hidt_ (show (rowOf (zbytes 32)).size = (rowOf dg).size by rw [rowOf_size, rowOf_size, LD.out, zbytes_len])
  clear ht B1 R1 B2 K2
  go_enter Tryd.func5, Tryd.ntmps5
  go_wp2_with (first
    | (go_at_call 10; ((with_reducible refine cs.mono ?_); clear cs; rintro e w5 ⟨rfl, hb⟩; have X5 := hidt_ (X2.out.trans (hb.mono X2.out.size)); clear hb))
    | (refine wpList_put_row rfl 25 _ _ rfl w5.heap.size (rowOf dg) rfl rfl 25 (rowOf (zbytes 32)) (Bk.new w5 _ _) I.out Q.out (bytes_one _) ?_; intro w6 k6 g6 s6; have c0 := (k6.cell 0).trans (rowOf_at dg 0 (by rw [LD.out]; omega)); have c1 := (k6.cell 1).trans (rowOf_at dg 1 (by rw [LD.out]; omega)); have c31 := (k6.cell 31).trans (rowOf_at dg 31 (by rw [LD.out]; omega)); rw [D0.out] at c0; rw [D1.out] at c1; rw [D31.out] at c31; have X6 := hidt_ (X5.out.trans ((((Below.refl w5.heap.size w5).alloc (Nat.le_refl _) (.cells (rowOf (zbytes 32)) 25)).grown g6 (by simp) (fun k hk => by injection hk with hk; omega)).mono X5.out.size)); clear k6 g6 s6))
  go_ret
  exact ⟨rfl, X6.out⟩
set_option maxRecDepth 100000 in
set_option maxHeartbeats 2000000 in
theorem topcut_any (w : World) (A9 : Option Addr) (l9 : List UInt8) (p9 c9 N m9 : Nat) (hp : l9.length = p9) (hm9 : m9 = min p9 N) (hN : N ≤ 1000) (hr9 : Rd w w.heap.size A9 l9) (hlc9 : p9 ≤ c9) (hcm9 : c9 ≤ 9223372036854775807) :
    Calls Tryd.prog 6 #[.slice A9 p9 c9, .int .i64 (N : Int)] w (NewP w m9 (l9.take N)) := by
  have hmn9 := fun W => run_min2 p9 N m9 hm9 W
  have hs9 := fun W => slice_to A9 p9 c9 (m9 : Int) m9 rfl (by omega) W
  have M9 := hidt_ (show (l9.take N).length = m9 by rw [List.length_take, hm9, hp, Nat.min_comm])
  obtain ⟨w1, hw1⟩ : ∃ w1, w.alloc (.cells #[] 5) = w1 := ⟨_, rfl⟩
  have b1 : Below w.heap.size w w1 := by rw [← hw1]; exact (Below.refl _ _).alloc (Nat.le_refl _) _
  have hown : Own8 w1 w.heap.size (.slice (some ⟨w.heap.size, 0, none⟩) 0 0) [] := by
    have h := Own8.lit w w.heap.size [] (Nat.le_refl _) (Nat.zero_le _)
    rw [show rowOf [] = #[] from rfl, hw1] at h
    exact h
  have hwal := hidt_ b1
  have s1 : w1.heap.size = w.heap.size + 1 := by rw [← hw1]; simp
  have hrt : Rd w1 w.heap.size A9 (l9.take N) := (hr9.take N).below b1
  have hle0 : ([] : List UInt8).length + m9 ≤ 140737488355328 := by simp; omega
  have hsz0 : w.heap.size ≤ w1.heap.size := by omega
  clear hr9 b1 hm9 hp
  generalize l9.take N = t at *
  go_enter Tryd.func6, Tryd.ntmps6
  go_wp2_with (at_builtin; refine wpList_app rfl (.tmp 5) (.tmp 11) rfl hown rfl m9 c9 rfl hrt M9.out hle0 hsz0 ?_; (intro A0 c0 w2 k1 k2 k3; have O2 := hidt_ (show Own8 w2 w.heap.size (.slice A0 m9 c0) t by simpa using k1); have X2 := hidt_ (hwal.out.grown k2 hsz0 (fun k hk => by simp [Value.ownBlock] at hk; omega)); clear k1 k2 k3 hrt hown))
  go_ret
  exact ⟨A0, c0, by simp, O2.out, X2.out⟩

/-- What stands in the worlds of the law: key, nonce, text. -/
structure CsC (w : World) (gk gn : Nat) (K No : List UInt8) (B : Option Addr) (b : List UInt8) (W : World) : Prop where
  key : Bk W gk 25 (rowOf K)
  nonce : Bk W gn 84 (rowOf No)
  text : Rd W W.heap.size B b
  below : Below w.heap.size w W
theorem CsC.keep {w : World} {gk gn : Nat} {K No : List UInt8} {B : Option Addr} {b : List UInt8} {W W' : World} (h : CsC w gk gn K No B b W) (hb : Below W.heap.size W W') : CsC w gk gn K No B b W' :=
  ⟨h.key.below hb h.key.lt, h.nonce.below hb h.nonce.lt, (h.text.below hb).more hb.size, h.below.trans (hb.mono h.below.size)⟩
/-- And what is sealed, the stream's bytes, the first block. -/
structure CsD (w : World) (gk gn gf : Nat) (K No : List UInt8) (B : Option Addr) (b : List UInt8) (S : Option Addr) (s : List UInt8) (C : Option Addr) (c F : List UInt8) (W : World) : Prop where
  base : CsC w gk gn K No B b W
  seal_ : Rd W W.heap.size S s
  stream : Rd W W.heap.size C c
  first : Bk W gf 68 (rowOf F)
theorem CsD.keep {w : World} {gk gn gf : Nat} {K No : List UInt8} {B : Option Addr} {b : List UInt8} {S : Option Addr} {s : List UInt8} {C : Option Addr} {c F : List UInt8} {W W' : World} (h : CsD w gk gn gf K No B b S s C c F W) (hb : Below W.heap.size W W') : CsD w gk gn gf K No B b S s C c F W' :=
  ⟨h.base.keep hb, (h.seal_.below hb).more hb.size, (h.stream.below hb).more hb.size, h.first.below hb h.first.lt⟩
def lenTop : Value → Nat
  | .slice _ n _ => n
  | _ => 0
theorem msg_nil (hi : List UInt8) (n : Nat) (h : hi.length = n) : msgB [] hi = hi ++ zbytes (fillN n) ++ List.replicate 8 0 ++ lowB 8 n := by
  have e0 : lowB 8 ([] : List UInt8).length = List.replicate 8 0 := by decide
  have e1 : zbytes (fillN ([] : List UInt8).length) = [] := rfl
  rw [msgB, e0, e1, h]
  simp
theorem zbytes_snoc (j : Nat) : zbytes j ++ [0] = zbytes (j + 1) := by simp [zbytes, List.replicate_succ']
/-- A byte that came in. -/
theorem open_u8 {H : Type} {enc : TypeId × Value → H} {P : Program} {t : TypeId} {w : World} {b0 base : Nat} {sp : Nat → Bool} {held : Bool} {r : Reach} {v : Value} {d : DataW H} {p : List MemPlace}
    (ht : P.underlying t = some (.int .u8)) (hv : Value.okWide P w r b0 t v) (h : DataW.Trod enc P w base sp held t v d p) : ∃ u : UInt8, v = .int .u8 ((u.toNat : Nat) : Int) := by
  obtain ⟨n, rfl, _, _, hw⟩ := open_int ht hv h
  obtain ⟨b1, b2⟩ := bounds_u8 hw
  refine ⟨UInt8.ofNat n.toNat, ?_⟩
  have : (UInt8.ofNat n.toNat).toNat = n.toNat := by simp; omega
  rw [this]
  congr 1
  omega
end Go.Proofs.YtmomnfhoeabdnaaDoor
