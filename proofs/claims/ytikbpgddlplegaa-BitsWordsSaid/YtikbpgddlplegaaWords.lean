/-
  Proved: for every slice of bytes, every uint64 and every size BitsWords answers true: of all bytes the words are told; what is put is read again, whichever byte is first. No condition.
-/
import Derived.Test.YtikbpgddlplegaaBr
import Derived.Test.YtikbpgddlplegaaAp
import Derived.Test.YtikbpgddlplegaaLp
import Derived.Deep.RegionHeld3
import Derived.Deep.DeepCutAuto
import Derived.BigCall
import Derived.Deep.QuietTactic
import Derived.BigQuiet
namespace Go.Proofs.Ytikbpgddlplegaa.bitsWords
open Go.ChangeShapes Go.WideShapes Go.ChangeAt Go.RowKit
set_option linter.unusedVariables false

theorem slice_to (A : Option Addr) (n c : Nat) (z : Int) (k : Nat) (hz : z = (k : Int)) (hk : k ≤ c) (W : World) :
    (Instr.slice 26 (.slice A n c) none (some (.int .i64 z)) none).run Try.prog W = .ok (.slice A k c) W := by
  subst hz
  have he : Try.prog.elem 26 = 5 := by kernel_rfl
  rw [run_slice_h W 26 A n c (by rw [he]; exact Try.underlying26) .i64 k (by omega) (by omega)]
  have hs : (sizeOf (Try.prog.elem 26)).run Try.prog W = .ok 1 W := by
    rw [he]
    obtain ⟨i, hi, hz, hsize, hby⟩ := info_parts info8
    simp [sizeOf, typeInfo, hi, hsize]
  rw [hs]
  simp only [Result.andThen, sliced]
  congr 2
  by_cases h : c = 0
  · rw [if_pos h]
  · rw [if_neg h]
    cases A with
    | none => rfl
    | some a => simp [Addr.add]

theorem hid_ {p : Prop} (h : p) : Hid p := h
section
variable {P : Program} {C : World → Prop} {o : Oper} {a : Act} {K : Act → Prop}
theorem quiet_run (v : Value) (h : ∀ W, C W → (execOp a.eval o).run P W = .ok (.value v) W) (hk : K (a.put o.dst v)) : o.quiet P a C K :=
  ⟨v, fun W hW => by unfold Oper.quietAt; rw [h W hW]; exact ⟨rfl, rfl⟩, hk⟩
theorem quiet_call (v : Value) (f : FuncId) (args : Array Value) (h : ∀ W, (execOp a.eval o).run P W = .ok (.enter f args) W) (hc : ∀ W, C W → Calls P f args W fun e w' => e = .returned v ∧ C w') (hk : K (a.put o.dst v)) : o.quiet P a C K :=
  ⟨v, fun W hW => by unfold Oper.quietAt; rw [h W]; exact ⟨rfl, hc W hW⟩, hk⟩
end
theorem region_quiet_in {P : Program} {C : World → Prop} {id : Nat} {Q : Exit → Act → World → Prop} {a : Act} {w : World} {l : List Oper} (hm : P.follows .mixedOrders = true) (hB : Region.lexB .any l.toArray = true) (hC : C { w with drawn := w.drawn + 1 })
    (h : wpQuiet P l.toArray C (fun a' => ∀ w', C w' → Q .normal a' w') l a) : (Code.region id l.toArray true).wp P Q a w :=
  wp_region_quiet hm hB hC (by simpa using h)
/-- The worlds of the last region: what was put lies where it was put. -/
def LastC (w : World) (g n x : Nat) (W : World) : Prop := Blk8 W g (lowB n x) ∧ Blk8 W (g + 1) (highB n x) ∧ Below w.heap.size w W
theorem LastC.below {w : World} {g n x : Nat} {W W' : World} (h : LastC w g n x W) (hb : Below W.heap.size W W') : LastC w g n x W' :=
  ⟨h.1.below hb h.1.lt, h.2.1.below hb h.2.1.lt, h.2.2.trans (hb.mono h.2.2.size)⟩

set_option maxRecDepth 100000 in
set_option maxHeartbeats 8000000 in
theorem walk (w : World) (A : Option Addr) (l : List UInt8) (c : Nat) (x : Nat) (size : Int) (n : Nat) (h0 : Rd w w.heap.size A l) (hc : l.length ≤ c) (hcm : c ≤ 9223372036854775807) (hx : x ≤ 18446744073709551615)
    (w0 : -9223372036854775808 ≤ size) (w1 : size ≤ 9223372036854775807) :
    Calls Try.prog 4 #[.slice A l.length c, .int .u64 x, .int .i64 size] w fun e w' => e = .returned (.bool true) ∧ Below w.heap.size w w' := by
  have hsl := slice_to A l.length c
  go_enter Try.func4, Try.ntmps4
  go_upto_region 1 with fail
  go_cut [0] (fun s0 wx => ∃ A' c', s0 = .slice A' (l.take 12).length c' ∧ Rd wx wx.heap.size A' (l.take 12) ∧ Below w.heap.size w wx)
  case first =>
    have hown := Own8.lit w w.heap.size [] (Nat.le_refl _) (Nat.zero_le _)
    have hrd := (h0.take 12).alloc (Nat.le_refl _) (.cells (rowOf []) 5)
    have HO := hown
    have hlen : (l.take 12).length = min l.length 12 := by rw [List.length_take, Nat.min_comm]
    by_cases hmin : l.length ≤ 12
    · have hsl1 := hsl l.length l.length rfl hc
      clear hsl
      rw [Nat.min_eq_left hmin] at hlen
      go_wp2_with (at_builtin; refine wpList_app rfl (.tmp 22) (.tmp 27) rfl hown rfl l.length c rfl hrd hlen ?_ ?_ ?_; (simp; omega); (simp); intro A' c' w2 k1 k2 k3)
      go_meet
      have hr2 := k1.rd
      exact ⟨A', c', by rw [hlen], hr2.1, ((Below.refl _ _).alloc (Nat.le_refl _) _).grown k2 (by simp) (fun k hk => by simp [Value.ownBlock] at hk; omega)⟩
    · have hsl1 := hsl 12 12 rfl (by omega)
      clear hsl
      rw [Nat.min_eq_right (by omega)] at hlen
      go_wp2_with (at_builtin; refine wpList_app rfl (.tmp 22) (.tmp 27) rfl hown rfl 12 c rfl hrd hlen ?_ ?_ ?_; (simp); (simp); intro A' c' w2 k1 k2 k3)
      go_meet
      have hr2 := k1.rd
      exact ⟨A', c', by rw [hlen], hr2.1, ((Below.refl _ _).alloc (Nat.le_refl _) _).grown k2 (by simp) (fun k hk => by simp [Value.ownBlock] at hk; omega)⟩
  case rest =>
    obtain ⟨A', c', rfl, hr, hb⟩ := hcut
    have hk12 : (l.take 12).length ≤ 12 := by rw [List.length_take]; omega
    clear hsl h0 hc hcm
    generalize l.take 12 = m at *
    obtain ⟨k, hk⟩ : ∃ k, m.length = k := ⟨_, rfl⟩
    rw [hk] at hk12 ⊢
    have hcv := conv_strn hr k c' hk
    have HK : Hid (m.length = k) := hk
    have HB : Hid (Below w.heap.size w wc) := hb
    have HR : Hid (Rd wc wc.heap.size A' m) := hr
    clear hk hb hr
    obtain ⟨n, hn⟩ : ∃ n : Nat, size < 0 ∧ n = 0 ∨ 0 ≤ size ∧ size ≤ 64 ∧ size = (n : Int) ∨ 64 < size ∧ n = 64 := by
      rcases Int.lt_or_le size 0 with h | h
      · exact ⟨0, .inl ⟨h, rfl⟩⟩
      · rcases Int.lt_or_le 64 size with h2 | h2
        · exact ⟨64, .inr (.inr ⟨h2, rfl⟩)⟩
        · exact ⟨size.toNat, .inr (.inl ⟨h, h2, by omega⟩)⟩
    have d1 := fun W => putLow_any x n size hx w0 w1 hn W
    have d2 := fun W => putHigh_any x n size hx w0 w1 hn W
    have d3 := fun W => putLow_any x 8 8 hx (by omega) (by omega) (by omega) W
    have d4 := fun W => putHigh_any x 8 8 hx (by omega) (by omega) (by omega) W
    have d5 : ∀ W : World, Calls Try.prog 18 #[.int .u64 x, .int .i64 size, .bool false] W fun e w' => e = .returned (.string (strOf (lowB n x))) ∧ Below W.heap.size W w' := fun W => refPut_any x n size false hx w0 w1 hn W
    have d6 : ∀ W : World, Calls Try.prog 18 #[.int .u64 x, .int .i64 size, .bool true] W fun e w' => e = .returned (.string (strOf (highB n x))) ∧ Below W.heap.size W w' := fun W => refPut_any x n size true hx w0 w1 hn W
    clear hn
    have e8 : (256 : Nat) ^ 8 = 18446744073709551616 := by decide
    have hx8 : x % 256 ^ 8 = x := by rw [e8]; omega
    have d7 : ∀ W : World, Calls Try.prog 13 #[.slice (some ⟨W.heap.size, 0, none⟩) 8 8] (W.alloc (.cells (rowOf (lowB 8 x)) 5)) fun e w' => e = .returned (.tuple #[.int .u64 (x : Int), .bool true]) ∧ W.alloc (.cells (rowOf (lowB 8 x)) 5) = w' := by
      intro W
      have h := low64_yes (some ⟨W.heap.size, 0, none⟩) (W.heap.size + 1) 8 (lowB 8 x) (W.alloc (.cells (rowOf (lowB 8 x)) 5)) (lowB_len 8 x) ((Blk8.new W (lowB 8 x)).rd (by omega))
      rw [leN_lowB, hx8] at h
      exact h
    have d8 : ∀ (W : World) (g : Nat), Blk8 W g (highB 8 x) → Calls Try.prog 14 #[.slice (some ⟨g, 0, none⟩) 8 8] W fun e w' => e = .returned (.tuple #[.int .u64 (x : Int), .bool true]) ∧ W = w' := by
      intro W g hg
      have h := high64_yes (some ⟨g, 0, none⟩) W.heap.size 8 (highB 8 x) W (highB_len 8 x) (hg.rd hg.lt)
      rw [beN_highB, hx8] at h
      exact h
    clear e8 hx8
    by_cases h4 : k = 4
    · subst h4
      have hp := leN_lt m
      have hq := beN_lt m
      have c1 := low32_yes A' wc.heap.size c' m wc HK.out HR.out
      have c2 := high32_yes A' wc.heap.size c' m wc HK.out HR.out
      have c3 := low64_no A' c' 4 wc (by omega)
      have c4 := high64_no A' c' 4 wc (by omega)
      have c5 := refWord_low m 4 HK.out (by omega)
      have c6 := refWord_high m 4 HK.out (by omega)
      rw [HK.out] at hp hq
      generalize leN m = P at hp c1 c5
      generalize beN m = Q at hq c2 c6
      have e4 : (256 : Nat) ^ 4 = 4294967296 := by decide
      have hp4 : P ≤ 4294967295 := by omega
      have hq4 : Q ≤ 4294967295 := by omega
      clear hp hq e4
      go_upto_region 11 with (first | (go_at_call 11; ((with_reducible refine c1.mono ?_); rintro e w' ⟨rfl, rfl⟩)) | (go_at_call 12; ((with_reducible refine c2.mono ?_); rintro e w' ⟨rfl, rfl⟩)) | (go_at_call 13; ((with_reducible refine c3.mono ?_); rintro e w' ⟨rfl, rfl⟩)) | (go_at_call 14; ((with_reducible refine c4.mono ?_); rintro e w' ⟨rfl, rfl⟩)) | (go_at_call 9; refine (turns_any _).mono ?_; rintro e w3 ⟨rfl, hg3⟩; have hcv3 := conv_strn (HR.out.below hg3) 4 c' HK.out) | (go_at_call 15; ((with_reducible refine (c5 _).mono ?_); rintro e w' ⟨rfl, rfl⟩)) | (go_at_call 15; ((with_reducible refine (c6 _).mono ?_); rintro e w' ⟨rfl, rfl⟩)))
      have hr3 := HR.out.below hg3
      have hb3 : Hid (Below w.heap.size w w3) := HB.out.trans (hg3.mono HB.out.size)
      clear hcv hcv3 c1 c2 c3 c4 c5 c6 hg3
      have f1 := (Blk8.new w3 (lowB n x))
      go_upto_region 14 with (first | (go_at_call 16; ((with_reducible refine (d1 _).mono ?_); rintro e w4 ⟨rfl, rfl⟩)) | (go_at_call 17; ((with_reducible refine (d2 _).mono ?_); rintro e w5 ⟨rfl, g1', g2⟩; have g1 : Blk8 w5 (w3.heap.size + 1) (highB n x) := (by simpa using g1'); clear g1'; have f2 := f1.below g2 (by simp))) | (go_at_call 16; ((with_reducible refine (d3 _).mono ?_); rintro e w6 ⟨rfl, rfl⟩)) | (go_at_call 13; ((with_reducible refine (d7 _).mono ?_); rintro e w' ⟨rfl, rfl⟩)) | (go_at_call 17; ((with_reducible refine (d4 _).mono ?_); rintro e w7 ⟨rfl, g3', g4⟩; have g3 : Blk8 w7 (w5.heap.size + 1) (highB 8 x) := (by simpa using g3'); clear g3')) | (go_at_call 14; ((with_reducible refine (d8 _ _ g3).mono ?_); rintro e w' ⟨rfl, rfl⟩)))
      have s5 := g2.size
      have s7 := g4.size
      have l1 := f2.lt
      have l2 := g1.lt
      have F1 : Blk8 w7 w3.heap.size (lowB n x) := (f2.alloc _).below g4 (by simp; omega)
      have F2 : Blk8 w7 (w3.heap.size + 1) (highB n x) := (g1.alloc _).below g4 (by simp; omega)
      have HB7 : Hid (Below w.heap.size w w7) := by
        have b1 := (hb3.out.alloc hb3.out.size (.cells (rowOf (lowB n x)) 5)).trans (g2.mono (by have := hb3.out.size; simp; omega))
        have b2 := (b1.alloc b1.size (.cells (rowOf (lowB 8 x)) 5)).trans (g4.mono (by have := b1.size; simp; omega))
        exact b2
      clear s5 s7 l1 l2 f1 f2 g1 g2 g3 g4 hr3 hb3 d1 d2 d3 d4 d7 d8
      have hcl := conv_strn (F1.drew.rd F1.lt) n n (lowB_len n x)
      have G1 := F1.drew
      have G2 := F2.drew
      have HCv : Hid (∀ W : World, LastC w w3.heap.size n x W → (convert 26 9 (.slice (some ⟨w3.heap.size, 0, none⟩) n n)).run Try.prog W = .ok (.string (strOf (lowB n x))) W) := hid_ (fun W h => conv_strn (h.1.rd h.1.lt) n n (lowB_len n x))
      have HCw : Hid (∀ W : World, LastC w w3.heap.size n x W → (convert 26 9 (.slice (some ⟨w3.heap.size + 1, 0, none⟩) n n)).run Try.prog W = .ok (.string (strOf (highB n x))) W) := hid_ (fun W h => conv_strn (h.2.1.rd h.2.1.lt) n n (highB_len n x))
      have HP1 : Hid (∀ W : World, LastC w w3.heap.size n x W → Calls Try.prog 18 #[.int .u64 x, .int .i64 size, .bool false] W fun e w' => e = .returned (.string (strOf (lowB n x))) ∧ LastC w w3.heap.size n x w') := hid_ (fun W h => (d5 W).mono fun e w' hh => ⟨hh.1, h.below hh.2⟩)
      have HP2 : Hid (∀ W : World, LastC w w3.heap.size n x W → Calls Try.prog 18 #[.int .u64 x, .int .i64 size, .bool true] W fun e w' => e = .returned (.string (strOf (highB n x))) ∧ LastC w w3.heap.size n x w') := hid_ (fun W h => (d6 W).mono fun e w' hh => ⟨hh.1, h.below hh.2⟩)
      have HC7 : LastC w w3.heap.size n x { w7 with drawn := w7.drawn + 1 } := ⟨G1, G2, HB7.out.drew⟩
      clear G1 G2 F1 F2 hcl d5 d6
      refine region_quiet_in (C := LastC w w3.heap.size n x) (by kernel_rfl) (by kernel_rfl) HC7 ?_
      repeat (go_big_quiet_want; (first
        | (refine BigFrame.quiet_move _ rfl ?_; go_simp)
        | (refine BigFrame.quiet_assign _ rfl ?_; go_simp)
        | (refine quiet_run (.bool true) ?_ ?_; (focus (intro W hW; go_simp; done)); go_simp)
        | (refine quiet_run (.string (strOf (lowB n x))) ?_ ?_; (focus (intro W hW; have h := HCv.out W hW; go_simp; done)); go_simp)
        | (refine quiet_run (.string (strOf (highB n x))) ?_ ?_; (focus (intro W hW; have h := HCw.out W hW; go_simp; done)); go_simp)
        | (refine quiet_call (.string (strOf (lowB n x))) 18 #[.int .u64 x, .int .i64 size, .bool false] ?_ HP1.out ?_; (focus (intro W; go_simp; done)); go_simp)
        | (refine quiet_call (.string (strOf (highB n x))) 18 #[.int .u64 x, .int .i64 size, .bool true] ?_ HP2.out ?_; (focus (intro W; go_simp; done)); go_simp)); go_big_quiet_on)
      refine wpQuiet_nil ?_
      intro W hW
      have hWb := hW.2.2
      clear hW
      go_wp2
      go_ret
      exact ⟨rfl, hWb⟩
    · by_cases h8 : k = 8
      · subst h8
        have hp := leN_lt m
        have hq := beN_lt m
        have c1 := low32_no A' c' 8 wc (by omega)
        have c2 := high32_no A' c' 8 wc (by omega)
        have c3 := low64_yes A' wc.heap.size c' m wc HK.out HR.out
        have c4 := high64_yes A' wc.heap.size c' m wc HK.out HR.out
        have c5 := refWord_low m 8 HK.out (by omega)
        have c6 := refWord_high m 8 HK.out (by omega)
        rw [HK.out] at hp hq
        generalize leN m = P at hp c3 c5
        generalize beN m = Q at hq c4 c6
        have e8 : (256 : Nat) ^ 8 = 18446744073709551616 := by decide
        have hp4 : P ≤ 18446744073709551615 := by omega
        have hq4 : Q ≤ 18446744073709551615 := by omega
        clear hp hq e8
        go_upto_region 11 with (first | (go_at_call 11; ((with_reducible refine c1.mono ?_); rintro e w' ⟨rfl, rfl⟩)) | (go_at_call 12; ((with_reducible refine c2.mono ?_); rintro e w' ⟨rfl, rfl⟩)) | (go_at_call 13; ((with_reducible refine c3.mono ?_); rintro e w' ⟨rfl, rfl⟩)) | (go_at_call 14; ((with_reducible refine c4.mono ?_); rintro e w' ⟨rfl, rfl⟩)) | (go_at_call 9; refine (turns_any _).mono ?_; rintro e w3 ⟨rfl, hg3⟩; have hcv3 := conv_strn (HR.out.below hg3) 8 c' HK.out) | (go_at_call 15; ((with_reducible refine (c5 _).mono ?_); rintro e w' ⟨rfl, rfl⟩)) | (go_at_call 15; ((with_reducible refine (c6 _).mono ?_); rintro e w' ⟨rfl, rfl⟩)))
        have hr3 := HR.out.below hg3
        have hb3 : Hid (Below w.heap.size w w3) := HB.out.trans (hg3.mono HB.out.size)
        clear hcv hcv3 c1 c2 c3 c4 c5 c6 hg3
        have f1 := (Blk8.new w3 (lowB n x))
        go_upto_region 14 with (first | (go_at_call 16; ((with_reducible refine (d1 _).mono ?_); rintro e w4 ⟨rfl, rfl⟩)) | (go_at_call 17; ((with_reducible refine (d2 _).mono ?_); rintro e w5 ⟨rfl, g1', g2⟩; have g1 : Blk8 w5 (w3.heap.size + 1) (highB n x) := (by simpa using g1'); clear g1'; have f2 := f1.below g2 (by simp))) | (go_at_call 16; ((with_reducible refine (d3 _).mono ?_); rintro e w6 ⟨rfl, rfl⟩)) | (go_at_call 13; ((with_reducible refine (d7 _).mono ?_); rintro e w' ⟨rfl, rfl⟩)) | (go_at_call 17; ((with_reducible refine (d4 _).mono ?_); rintro e w7 ⟨rfl, g3', g4⟩; have g3 : Blk8 w7 (w5.heap.size + 1) (highB 8 x) := (by simpa using g3'); clear g3')) | (go_at_call 14; ((with_reducible refine (d8 _ _ g3).mono ?_); rintro e w' ⟨rfl, rfl⟩)))
        have s5 := g2.size
        have s7 := g4.size
        have l1 := f2.lt
        have l2 := g1.lt
        have F1 : Blk8 w7 w3.heap.size (lowB n x) := (f2.alloc _).below g4 (by simp; omega)
        have F2 : Blk8 w7 (w3.heap.size + 1) (highB n x) := (g1.alloc _).below g4 (by simp; omega)
        have HB7 : Hid (Below w.heap.size w w7) := by
          have b1 := (hb3.out.alloc hb3.out.size (.cells (rowOf (lowB n x)) 5)).trans (g2.mono (by have := hb3.out.size; simp; omega))
          have b2 := (b1.alloc b1.size (.cells (rowOf (lowB 8 x)) 5)).trans (g4.mono (by have := b1.size; simp; omega))
          exact b2
        clear s5 s7 l1 l2 f1 f2 g1 g2 g3 g4 hr3 hb3 d1 d2 d3 d4 d7 d8
        have hcl := conv_strn (F1.drew.rd F1.lt) n n (lowB_len n x)
        have G1 := F1.drew
        have G2 := F2.drew
        have HCv : Hid (∀ W : World, LastC w w3.heap.size n x W → (convert 26 9 (.slice (some ⟨w3.heap.size, 0, none⟩) n n)).run Try.prog W = .ok (.string (strOf (lowB n x))) W) := hid_ (fun W h => conv_strn (h.1.rd h.1.lt) n n (lowB_len n x))
        have HCw : Hid (∀ W : World, LastC w w3.heap.size n x W → (convert 26 9 (.slice (some ⟨w3.heap.size + 1, 0, none⟩) n n)).run Try.prog W = .ok (.string (strOf (highB n x))) W) := hid_ (fun W h => conv_strn (h.2.1.rd h.2.1.lt) n n (highB_len n x))
        have HP1 : Hid (∀ W : World, LastC w w3.heap.size n x W → Calls Try.prog 18 #[.int .u64 x, .int .i64 size, .bool false] W fun e w' => e = .returned (.string (strOf (lowB n x))) ∧ LastC w w3.heap.size n x w') := hid_ (fun W h => (d5 W).mono fun e w' hh => ⟨hh.1, h.below hh.2⟩)
        have HP2 : Hid (∀ W : World, LastC w w3.heap.size n x W → Calls Try.prog 18 #[.int .u64 x, .int .i64 size, .bool true] W fun e w' => e = .returned (.string (strOf (highB n x))) ∧ LastC w w3.heap.size n x w') := hid_ (fun W h => (d6 W).mono fun e w' hh => ⟨hh.1, h.below hh.2⟩)
        have HC7 : LastC w w3.heap.size n x { w7 with drawn := w7.drawn + 1 } := ⟨G1, G2, HB7.out.drew⟩
        clear G1 G2 F1 F2 hcl d5 d6
        refine region_quiet_in (C := LastC w w3.heap.size n x) (by kernel_rfl) (by kernel_rfl) HC7 ?_
        repeat (go_big_quiet_want; (first
          | (refine BigFrame.quiet_move _ rfl ?_; go_simp)
          | (refine BigFrame.quiet_assign _ rfl ?_; go_simp)
          | (refine quiet_run (.bool true) ?_ ?_; (focus (intro W hW; go_simp; done)); go_simp)
          | (refine quiet_run (.string (strOf (lowB n x))) ?_ ?_; (focus (intro W hW; have h := HCv.out W hW; go_simp; done)); go_simp)
          | (refine quiet_run (.string (strOf (highB n x))) ?_ ?_; (focus (intro W hW; have h := HCw.out W hW; go_simp; done)); go_simp)
          | (refine quiet_call (.string (strOf (lowB n x))) 18 #[.int .u64 x, .int .i64 size, .bool false] ?_ HP1.out ?_; (focus (intro W; go_simp; done)); go_simp)
          | (refine quiet_call (.string (strOf (highB n x))) 18 #[.int .u64 x, .int .i64 size, .bool true] ?_ HP2.out ?_; (focus (intro W; go_simp; done)); go_simp)); go_big_quiet_on)
        refine wpQuiet_nil ?_
        intro W hW
        have hWb := hW.2.2
        clear hW
        go_wp2
        go_ret
        exact ⟨rfl, hWb⟩
      · have c1 := low32_no A' c' k wc h4
        have c2 := high32_no A' c' k wc h4
        have c3 := low64_no A' c' k wc h8
        have c4 := high64_no A' c' k wc h8
        have k4 : decide ((k : Int) = 4) = false := decide_eq_false (by omega)
        have k8 : decide ((k : Int) = 8) = false := decide_eq_false (by omega)
        have k4' : ((k : Int) == 4) = false := by simp; omega
        have k8' : ((k : Int) == 8) = false := by simp; omega
        have k4'' : ¬ (k : Int) = 4 := by omega
        have k8'' : ¬ (k : Int) = 8 := by omega
        go_upto_region 11 with (first | (go_at_call 11; ((with_reducible refine c1.mono ?_); rintro e w' ⟨rfl, rfl⟩)) | (go_at_call 12; ((with_reducible refine c2.mono ?_); rintro e w' ⟨rfl, rfl⟩)) | (go_at_call 13; ((with_reducible refine c3.mono ?_); rintro e w' ⟨rfl, rfl⟩)) | (go_at_call 14; ((with_reducible refine c4.mono ?_); rintro e w' ⟨rfl, rfl⟩)) | (go_at_call 9; refine (turns_any _).mono ?_; rintro e w3 ⟨rfl, hg3⟩; have hcv3 := conv_strn (HR.out.below hg3) k c' HK.out))
        have hr3 := HR.out.below hg3
        have hb3 : Hid (Below w.heap.size w w3) := HB.out.trans (hg3.mono HB.out.size)
        clear hcv hcv3 c1 c2 c3 c4 hg3
        have f1 := (Blk8.new w3 (lowB n x))
        go_upto_region 14 with (first | (go_at_call 16; ((with_reducible refine (d1 _).mono ?_); rintro e w4 ⟨rfl, rfl⟩)) | (go_at_call 17; ((with_reducible refine (d2 _).mono ?_); rintro e w5 ⟨rfl, g1', g2⟩; have g1 : Blk8 w5 (w3.heap.size + 1) (highB n x) := (by simpa using g1'); clear g1'; have f2 := f1.below g2 (by simp))) | (go_at_call 16; ((with_reducible refine (d3 _).mono ?_); rintro e w6 ⟨rfl, rfl⟩)) | (go_at_call 13; ((with_reducible refine (d7 _).mono ?_); rintro e w' ⟨rfl, rfl⟩)) | (go_at_call 17; ((with_reducible refine (d4 _).mono ?_); rintro e w7 ⟨rfl, g3', g4⟩; have g3 : Blk8 w7 (w5.heap.size + 1) (highB 8 x) := (by simpa using g3'); clear g3')) | (go_at_call 14; ((with_reducible refine (d8 _ _ g3).mono ?_); rintro e w' ⟨rfl, rfl⟩)))
        have s5 := g2.size
        have s7 := g4.size
        have l1 := f2.lt
        have l2 := g1.lt
        have F1 : Blk8 w7 w3.heap.size (lowB n x) := (f2.alloc _).below g4 (by simp; omega)
        have F2 : Blk8 w7 (w3.heap.size + 1) (highB n x) := (g1.alloc _).below g4 (by simp; omega)
        have HB7 : Hid (Below w.heap.size w w7) := by
          have b1 := (hb3.out.alloc hb3.out.size (.cells (rowOf (lowB n x)) 5)).trans (g2.mono (by have := hb3.out.size; simp; omega))
          have b2 := (b1.alloc b1.size (.cells (rowOf (lowB 8 x)) 5)).trans (g4.mono (by have := b1.size; simp; omega))
          exact b2
        clear s5 s7 l1 l2 f1 f2 g1 g2 g3 g4 hr3 hb3 d1 d2 d3 d4 d7 d8
        have hcl := conv_strn (F1.drew.rd F1.lt) n n (lowB_len n x)
        have G1 := F1.drew
        have G2 := F2.drew
        have HCv : Hid (∀ W : World, LastC w w3.heap.size n x W → (convert 26 9 (.slice (some ⟨w3.heap.size, 0, none⟩) n n)).run Try.prog W = .ok (.string (strOf (lowB n x))) W) := hid_ (fun W h => conv_strn (h.1.rd h.1.lt) n n (lowB_len n x))
        have HCw : Hid (∀ W : World, LastC w w3.heap.size n x W → (convert 26 9 (.slice (some ⟨w3.heap.size + 1, 0, none⟩) n n)).run Try.prog W = .ok (.string (strOf (highB n x))) W) := hid_ (fun W h => conv_strn (h.2.1.rd h.2.1.lt) n n (highB_len n x))
        have HP1 : Hid (∀ W : World, LastC w w3.heap.size n x W → Calls Try.prog 18 #[.int .u64 x, .int .i64 size, .bool false] W fun e w' => e = .returned (.string (strOf (lowB n x))) ∧ LastC w w3.heap.size n x w') := hid_ (fun W h => (d5 W).mono fun e w' hh => ⟨hh.1, h.below hh.2⟩)
        have HP2 : Hid (∀ W : World, LastC w w3.heap.size n x W → Calls Try.prog 18 #[.int .u64 x, .int .i64 size, .bool true] W fun e w' => e = .returned (.string (strOf (highB n x))) ∧ LastC w w3.heap.size n x w') := hid_ (fun W h => (d6 W).mono fun e w' hh => ⟨hh.1, h.below hh.2⟩)
        have HC7 : LastC w w3.heap.size n x { w7 with drawn := w7.drawn + 1 } := ⟨G1, G2, HB7.out.drew⟩
        clear G1 G2 F1 F2 hcl d5 d6
        refine region_quiet_in (C := LastC w w3.heap.size n x) (by kernel_rfl) (by kernel_rfl) HC7 ?_
        repeat (go_big_quiet_want; (first
          | (refine BigFrame.quiet_move _ rfl ?_; go_simp)
          | (refine BigFrame.quiet_assign _ rfl ?_; go_simp)
          | (refine quiet_run (.bool true) ?_ ?_; (focus (intro W hW; go_simp; done)); go_simp)
          | (refine quiet_run (.string (strOf (lowB n x))) ?_ ?_; (focus (intro W hW; have h := HCv.out W hW; go_simp; done)); go_simp)
          | (refine quiet_run (.string (strOf (highB n x))) ?_ ?_; (focus (intro W hW; have h := HCw.out W hW; go_simp; done)); go_simp)
          | (refine quiet_call (.string (strOf (lowB n x))) 18 #[.int .u64 x, .int .i64 size, .bool false] ?_ HP1.out ?_; (focus (intro W; go_simp; done)); go_simp)
          | (refine quiet_call (.string (strOf (highB n x))) 18 #[.int .u64 x, .int .i64 size, .bool true] ?_ HP2.out ?_; (focus (intro W; go_simp; done)); go_simp)); go_big_quiet_on)
        refine wpQuiet_nil ?_
        intro W hW
        have hWb := hW.2.2
        clear hW
        go_wp2
        go_ret
        exact ⟨rfl, hWb⟩

set_option maxRecDepth 100000 in
theorem lifted (os : Os) (started : os.Started) (H : Type) (enc : TypeId × Value → H) :
    ReturnsInHanded {} Try.checked os 4 .any (Rows.bitsWordsSpec.pre6 enc Try.prog Try.f4 Rows.bitsWordsRow.domain false) (Rows.bitsWordsSpec.post enc Try.prog Try.f4 false true false false) := by
  refine returnsInHanded_of_change (C := Try.checked) own_ started (by kernel_rfl) Try.func4
    (ChangeSpec.witness6 (enc := enc) (C := Try.checked) false ⟨#[], #[.slice none 0 0, .int .u64 0, .int .i64 0], []⟩ 8 (by kernel_rfl) (by kernel_rfl) (by kernel_rfl) (by kernel_rfl)) ?_
  intro W base args ds gs before hval0 hW hcnd _
  have hval : ∀ (j : Nat) t v, Try.f4.params[j]? = some t → args[j]? = some v → Value.okWide Try.prog W .any base t v := hval0
  have hW' := hW
  obtain ⟨p, q, hA0, hV, rfl, hfz, hnd⟩ := hW
  have hA : DataW.TrodAll enc Try.prog W 0 (fun _ => true) true Try.f4.params.toList args.toList ds p := hA0
  rw [Try.params4] at hA hval
  obtain ⟨v0, vs0, d0, ds0, p0, q0, hargs, rfl, rfl, h0, r0⟩ := trodAll_cons hA
  obtain ⟨v1, vs1, d1, ds1, p1, q1, rfl, rfl, rfl, h1, r1⟩ := trodAll_cons r0
  obtain ⟨v2, vs2, d2, ds2, p2, q2, rfl, rfl, rfl, h2, r2⟩ := trodAll_cons r1
  obtain ⟨rfl, rfl, rfl⟩ := trodAll_nil r2
  obtain rfl : args = #[v0, v1, v2] := by cases args; simp_all
  obtain ⟨rfl, rfl⟩ := trodVars_none hV
  obtain ⟨A0, l, c0, rfl, hr, hlc, hcm⟩ := open_bytes Try.underlying26 Try.underlying5 (by kernel_rfl) (hval 0 26 v0 rfl rfl) h0
  obtain ⟨a1, rfl, rfl, rfl, w1⟩ := open_int Try.underlying27 (hval 1 27 v1 rfl rfl) h1
  obtain ⟨a2, rfl, rfl, rfl, w2⟩ := open_int Try.underlying3 (hval 2 3 v2 rfl rfl) h2
  obtain ⟨b2, b3⟩ := bounds_u64 w1
  obtain ⟨b4, b5⟩ := bounds_i64 w2
  obtain ⟨x1, rfl⟩ := Int.eq_ofNat_of_zero_le b2
  refine (walk W A0 l c0 x1 a2 0 hr hlc hcm (by omega) b4 b5).mono fun e W' ⟨he, hg⟩ => ⟨_, he, ?_⟩
  exact law_post laidOut_ (of_decide_eq_true (by kernel_rfl)) rfl rfl Try.underlying4 rfl hW' hg

theorem over : Rows.bitsWordsRow.holds Try.pinned (OpenSpec.ofChange Rows.bitsWordsSpec) :=
  OpenClaim.holds_of_wide 4 Try.f4 rfl rfl rfl rfl rfl rfl rfl ⟨rfl, rfl, rfl, rfl, rfl⟩ rfl rfl rfl rfl rfl (by kernel_rfl) Try.func4 (by kernel_rfl)
    (of_decide_eq_true (by kernel_rfl)) (by unfold Func.isWrapper; first | (rw [if_pos (by decide +kernel)]; kernel_rfl) | (rw [if_neg (by decide +kernel)]; exact ⟨rfl, rfl⟩))
    (fun os started H enc _ => lifted os started H enc)

theorem proved : Rows.BitsWordsSaid := over
#print axioms proved
end Go.Proofs.Ytikbpgddlplegaa.bitsWords
