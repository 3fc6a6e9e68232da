/-
  A net since the call began; nets: the second message may come first.
-/
import Derived.Test.YtdkemjipbkanoaaVe
import Derived.BigQuiet
import Derived.Lib.SlBytesConst
namespace Go.Proofs.Ytdkemjipbkanoaa
open Go.RowKit
set_option linter.unusedVariables false
set_option linter.unusedSimpArgs false

/-- A net of the call's own. -/
structure NetI (w0 w : World) (p q n : Nat) (L : List (List (List UInt8))) (F : List Nat) : Prop where
  net : NetF w p q n L F
  un : Below w0.heap.size w0 w
  hi : ∀ k ∈ F, w0.heap.size ≤ k
section
variable {w0 w w' : World} {p q n : Nat} {L L' : List (List (List UInt8))} {F F' : List Nat}
theorem NetI.act (h : NetI w0 w p q n L F) (h1 : NetF w' p q n L' F') (h2 : Grew w F F') (h3 : Untouched F w w') : NetI w0 w' p q n L' F' :=
  ⟨h1, h.un.trans (h3.below h.hi h.un.size), fun k hk => by rcases h2 k hk with g | g; exact h.hi k g; exact Nat.le_trans h.un.size g⟩
theorem NetI.below (h : NetI w0 w p q n L F) (hb : Below w.heap.size w w') : NetI w0 w' p q n L F := ⟨h.net.below hb, h.un.trans (hb.mono h.un.size), h.hi⟩
theorem lit_rd (w : World) (x : UInt8) (z : Int) (hz : (x.toNat : Int) = z) : Rd (w.alloc (.cells #[.int .u8 z] 5 (1, 2))) (w.alloc (.cells #[.int .u8 z] 5 (1, 2))).heap.size (some ⟨w.heap.size, 0, none⟩) [x] := by
  subst hz
  refine fun _ => ⟨_, 0, rfl, by simp, fun j hj => ?_⟩
  obtain rfl : j = 0 := by simp at hj; omega
  exact World.cell?_alloc_mark _ _ _ _ _
end
/-- A new net. -/
def NewI (w : World) (n : Nat) (L : List (List (List UInt8))) (e : Ending) (w' : World) : Prop := ∃ p q F, e = .returned (.tuple #[.pointer (some ⟨p, 0, none⟩), .int .i64 0]) ∧ NetI w w' p q n L F
theorem new_i (w : World) (z : Int) (n : Nat) (hz : (n : Int) = z) (h1 : 1 ≤ n) (h9 : n ≤ 9) (L : List (List (List UInt8))) (hL : List.replicate (2 * n) [] = L) : Calls Try.prog 14 #[.int .i64 z] w (NewI w n L) := by
  subst hz hL
  exact (new_yes w n h1 h9).mono fun e w' ⟨p, q, F, he, h, hF, hb⟩ => ⟨p, q, F, he, h, hb, hF⟩
set_option maxRecDepth 100000 in
set_option maxHeartbeats 8000000 in
theorem nets_any (w : World) : Calls Try.prog 9 #[] w fun e w' => e = .returned (.bool true) ∧ Below w.heap.size w w' := by
  have cn := new_i w 1 1 rfl (by omega) (by omega) [[], []] rfl
  have k1 := fun W (z : Int) => Lib.run_convert_bytes_const (P := Try.prog) W 23 5 #[.int .u8 z] 1 1 Try.underlying23 Try.underlying5
  simp only [List.size_toArray, List.length_cons, List.length_nil] at k1
  go_enter Try.func9, Try.ntmps9
  go_upto_region 2 with (go_at_call 14; ((with_reducible refine cn.mono ?_); clear cn; rintro e w1 ⟨p, q, F, rfl, h⟩; have H1 := hidv_ h; clear h))
  obtain ⟨wa, hwa⟩ : ∃ x, w1.alloc (.cells #[.int .u8 97] 5 (1, 2)) = x := ⟨_, rfl⟩
  have ra := lit_rd w1 97 97 rfl
  rw [hwa] at ra
  have HA := hidv_ (H1.out.below (show Below w1.heap.size w1 wa by rw [← hwa]; exact (Below.refl _ _).alloc (Nat.le_refl _) _))
  have cs1 : Calls Try.prog 10 #[.pointer (some ⟨p, 0, none⟩), .int .i64 0, .slice (some ⟨w1.heap.size, 0, none⟩) 1 1] wa (NetP wa p q 1 [[[97]], []] F 0) := send_yes HA.out.net 0 (by omega) _ 1 1 [97] rfl ra (by omega)
  go_upto_region 3 with (first
    | (go_at_call 10; ((with_reducible refine cs1.mono ?_); clear cs1; go_loud (rintro e w2 ⟨rfl, F2, h1, h2, h3⟩; have H2 := hidv_ (HA.out.act h1 h2 h3); clear h1 h2 h3; (obtain ⟨wb, hwb⟩ : ∃ x, w2.alloc (.cells #[.int .u8 98] 5 (1, 2)) = x := ⟨_, rfl⟩); have rb := lit_rd w2 98 98 rfl; rw [hwb] at rb; have HB := hidv_ (H2.out.below (show Below w2.heap.size w2 wb by rw [← hwb]; exact (Below.refl _ _).alloc (Nat.le_refl _) _)); have cs2 : Calls Try.prog 10 #[.pointer (some ⟨p, 0, none⟩), .int .i64 0, .slice (some ⟨w2.heap.size, 0, none⟩) 1 1] wb (NetP wb p q 1 [[[97], [98]], []] F2 0) := send_yes HB.out.net 0 (by omega) _ 1 1 [98] rfl rb (by omega))))
    | (go_at_call 10; ((with_reducible refine cs2.mono ?_); clear cs2; rintro e w3 ⟨rfl, F3, h1, h2, h3⟩; have H3 := hidv_ (HB.out.act h1 h2 h3); clear h1 h2 h3)))
  clear hwa hwb ra rb k1
  have ct1 : Calls Try.prog 7 #[.pointer (some ⟨p, 0, none⟩), .int .i64 0, .int .i64 1] w3 (TakeP w3 p q 1 [[[97]], [[98]]] F3 1 [98]) := take_yes H3.out.net 0 (by omega) 1 (by decide) (by decide) (by decide) 1 rfl (by omega)
  go_upto_region 4 with (go_at_call 7; ((with_reducible refine ct1.mono ?_); clear ct1; rintro e w4 ⟨A4, c4, F4, rfl, ho, hr, h1, h2, h3⟩; have H4 := hidv_ (H3.out.act h1 h2 h3); have R4 := hidv_ hr; clear ho hr h1 h2 h3))
  have ct2 : Calls Try.prog 7 #[.pointer (some ⟨p, 0, none⟩), .int .i64 0, .int .i64 0] w4 (TakeP w4 p q 1 [[], [[98], [97]]] F4 1 [97]) := take_yes H4.out.net 0 (by omega) 0 (by decide) (by decide) (by decide) 1 rfl (by omega)
  go_upto_region 5 with (go_at_call 7; ((with_reducible refine ct2.mono ?_); clear ct2; rintro e w5 ⟨A5, c5, F5, rfl, ho, hr, h1, h2, h3⟩; have H5 := hidv_ (H4.out.act h1 h2 h3); have R5 := hidv_ hr; have R45 := hidv_ (R4.out.keep h3 h2); clear ho hr h1 h2 h3))
  have ct3 : Calls Try.prog 7 #[.pointer (some ⟨p, 0, none⟩), .int .i64 0, .int .i64 0] w5 (fun e w' => e = .returned (.tuple #[.slice none 0 0, .int .i64 7]) ∧ w5 = w') := take_miss H5.out.net 0 (by omega) 0 (.inr (by decide))
  go_upto_region 6 with (go_at_call 7; ((with_reducible refine ct3.mono ?_); clear ct3; rintro e w6 ⟨rfl, rfl⟩))
  have hv4 : (convert 23 9 (.slice A4 1 c4)).run Try.prog w5 = .ok (.string { data := #[98] }) w5 := conv_strn R45.out.rd 1 c4 rfl
  have hv5 : (convert 23 9 (.slice A5 1 c5)).run Try.prog w5 = .ok (.string { data := #[97] }) w5 := conv_strn R5.out.rd 1 c5 rfl
  have cs : Calls Try.prog 13 #[.pointer (some ⟨p, 0, none⟩), .int .i64 0] w5 (fun e w' => ∃ A c G, e = .returned (.slice A 2 c) ∧ RowF w' G (.slice A 2 c) [[98], [97]] ∧ (∀ k ∈ G, w5.heap.size ≤ k ∧ k < w'.heap.size) ∧ Below w5.heap.size w5 w') := seen_yes H5.out.net 0 (by omega) 2 rfl (by omega) (by simp)
  go_wp2_with (go_at_call 13; ((with_reducible refine cs.mono ?_); clear cs; rintro e w6 ⟨A6, c6, G, rfl, hs1, hs2, hb⟩; have B6 := hidv_ hb; clear hs1 hs2 hb))
  go_ret
  exact ⟨rfl, H5.out.un.trans (B6.out.mono H5.out.un.size)⟩
end Go.Proofs.Ytdkemjipbkanoaa
