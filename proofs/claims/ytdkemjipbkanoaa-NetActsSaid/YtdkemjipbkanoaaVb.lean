/-
  net: New, inbox, has, Len, Clear; messages put into a box.
-/
import Derived.Test.YtdkemjipbkanoaaVa
import Derived.Test.YtdkemjipbkanoaaCc
import Derived.LaidEqlPtr
namespace Go.Proofs.Ytdkemjipbkanoaa
open Go.RowKit
set_option linter.unusedVariables false
set_option linter.unusedSimpArgs false

theorem hidv_ {p : Prop} (h : p) : Hid p := h
set_option maxRecDepth 100000 in
set_option maxHeartbeats 1000000 in
theorem inbox_yes {w : World} {p q n : Nat} {L : List (List (List UInt8))} {F : List Nat} (h : NetF w p q n L F) (k : Nat) (hk : k < n) :
    Calls Try.prog 19 #[.pointer (some ⟨p, 0, none⟩), .int .i64 (k : Int)] w fun e w' => e = .returned (.pointer (some ⟨q, k * 2, none⟩)) ∧ w = w' := by
  have hn := h.hn
  have hc := h.bp.cell 0
  simp only [List.getElem?_toArray, List.getElem?_cons_zero] at hc
  have d1 : decide ((k : Int) < 0) = false := decide_eq_false (by omega)
  have d2 : decide ((n : Int) ≤ (k : Int)) = false := decide_eq_false (by omega)
  have d3 : decide (n ≤ k) = false := decide_eq_false (by omega)
  clear h
  go_enter Try.func19, Try.ntmps19
  go_wp2
  go_ret
  exact ⟨rfl, rfl⟩
set_option maxRecDepth 100000 in
set_option maxHeartbeats 1000000 in
theorem inbox_no {w : World} {p q n : Nat} {L : List (List (List UInt8))} {F : List Nat} (h : NetF w p q n L F) (z : Int) (hz : z < 0 ∨ (n : Int) ≤ z) :
    Calls Try.prog 19 #[.pointer (some ⟨p, 0, none⟩), .int .i64 z] w fun e w' => e = .returned (.pointer none) ∧ w = w' := by
  have hn := h.hn
  have hc := h.bp.cell 0
  simp only [List.getElem?_toArray, List.getElem?_cons_zero] at hc
  clear h
  by_cases h0 : z < 0
  · have d1 : decide (z < 0) = true := decide_eq_true h0
    clear hz h0
    go_enter Try.func19, Try.ntmps19
    go_wp2
    go_ret
    exact ⟨rfl, rfl⟩
  · have d1 : decide (z < 0) = false := decide_eq_false h0
    have d2 : decide ((n : Int) ≤ z) = true := decide_eq_true (by omega)
    clear hz h0
    go_enter Try.func19, Try.ntmps19
    go_wp2
    go_ret
    exact ⟨rfl, rfl⟩
set_option maxRecDepth 100000 in
set_option maxHeartbeats 1000000 in
theorem inbox_nil (w : World) (z : Int) :
    Calls Try.prog 19 #[.pointer none, .int .i64 z] w fun e w' => e = .returned (.pointer none) ∧ w = w' := by
  go_enter Try.func19, Try.ntmps19
  go_wp2
  go_ret
  exact ⟨rfl, rfl⟩
set_option maxRecDepth 100000 in
set_option maxHeartbeats 1000000 in
theorem has_any {w : World} (q o : Nat) (A : Option Addr) (m c : Nat) (hc : w.cell? ⟨q, o, none⟩ = some (.slice A m c)) (z : Int) :
    Calls Try.prog 20 #[.pointer (some ⟨q, o, none⟩), .int .i64 z] w fun e w' => e = .returned (.bool (decide (0 ≤ z) && decide (z < (m : Int)))) ∧ w = w' := by
  by_cases h0 : 0 ≤ z
  · have d1 : decide (0 ≤ z) = true := decide_eq_true h0
    clear h0
    go_enter Try.func20, Try.ntmps20
    go_wp2
    go_ret
    exact ⟨by rw [d1]; rfl, rfl⟩
  · have d1 : decide (0 ≤ z) = false := decide_eq_false h0
    clear h0
    go_enter Try.func20, Try.ntmps20
    go_wp2
    go_ret
    exact ⟨by rw [d1]; rfl, rfl⟩
set_option maxRecDepth 100000 in
set_option maxHeartbeats 1000000 in
theorem len_yes {w : World} {p q n : Nat} {L : List (List (List UInt8))} {F : List Nat} (h : NetF w p q n L F) (k : Nat) (hk : k < n) (m : Nat) (hm : (L.getD (k * 2) []).length = m) :
    Calls Try.prog 12 #[.pointer (some ⟨p, 0, none⟩), .int .i64 (k : Int)] w fun e w' => e = .returned (.int .i64 (m : Int)) ∧ w = w' := by
  obtain ⟨A, c, hc, _⟩ := h.at_ (k * 2) (by omega)
  rw [hm] at hc
  have ci := inbox_yes h k hk
  clear hm h
  go_enter Try.func12, Try.ntmps12
  go_wp2_with (go_at_call 19; ((with_reducible refine ci.mono ?_); clear ci; rintro e w' ⟨rfl, rfl⟩))
  go_ret
  exact ⟨rfl, rfl⟩
set_option maxRecDepth 100000 in
set_option maxHeartbeats 1000000 in
theorem len_no {w : World} {P : Option Addr} (z : Int) (ci : Calls Try.prog 19 #[.pointer P, .int .i64 z] w fun e w' => e = .returned (.pointer none) ∧ w = w') :
    Calls Try.prog 12 #[.pointer P, .int .i64 z] w fun e w' => e = .returned (.int .i64 0) ∧ w = w' := by
  go_enter Try.func12, Try.ntmps12
  go_wp2_with (go_at_call 19; ((with_reducible refine ci.mono ?_); clear ci; rintro e w' ⟨rfl, rfl⟩))
  go_ret
  exact ⟨rfl, rfl⟩
/-- A net's act that tells an error or none. -/
def NetP (w : World) (p q n : Nat) (L : List (List (List UInt8))) (F : List Nat) (z : Int) (e : Ending) (w' : World) : Prop :=
  e = .returned (.int .i64 z) ∧ ∃ F', NetF w' p q n L F' ∧ Grew w F F' ∧ Untouched F w w'
/-- What add makes of the boxes, and what it tells. -/
def addL (L : List (List (List UInt8))) (k : Nat) (m : List UInt8) : List (List (List UInt8)) := if 64 ≤ (L.getD (k * 2) []).length then L else L.set (k * 2) (L.getD (k * 2) [] ++ [m])
def addE (L : List (List (List UInt8))) (k : Nat) : Int := if 64 ≤ (L.getD (k * 2) []).length then 10 else 0
theorem getD_self {L : List (List (List UInt8))} (j : Nat) : L.set j (L.getD j []) = L := by
  apply List.ext_getElem?
  intro i
  rw [List.getElem?_set]
  split
  · rename_i h; subst h
    split
    · rename_i h; simp [List.getD, h]
    · rename_i h; simp at h; simp [h]
  · rfl

set_option maxRecDepth 100000 in
set_option maxHeartbeats 4000000 in
theorem add_any {w : World} {p q n : Nat} {L : List (List (List UInt8))} {F : List Nat} (h : NetF w p q n L F) (k : Nat) (hk : k < n) (A0 : Option Addr) (n0 c0 : Nat) (m : List UInt8) (hn0 : m.length = n0) (hm : BitF w F (.slice A0 n0 c0) m) :
    Calls Try.prog 23 #[.pointer (some ⟨q, k * 2, none⟩), .slice A0 n0 c0] w (NetP w p q n (addL L k m) F (addE L k)) := by
  obtain ⟨A, c, hc, hr, hcl, hcm⟩ := h.at_ (k * 2) (by omega)
  obtain ⟨l, hl⟩ : ∃ l, (L.getD (k * 2) []) = l := ⟨_, rfl⟩
  unfold addL addE
  rw [hl] at hc hr hcl ⊢
  obtain ⟨r, hlr⟩ : ∃ r, l.length = r := ⟨_, rfl⟩
  rw [hlr] at hc hr hcl ⊢
  have HH := hidv_ h
  by_cases h64 : 64 ≤ r
  · have d1 : decide (64 ≤ (r : Int)) = true := decide_eq_true (by omega)
    have d2 : decide (64 ≤ r) = true := decide_eq_true (by omega)
    rw [if_pos h64, if_pos h64]
    clear h hr hl hlr hm h64
    go_enter Try.func23, Try.ntmps23
    go_wp2
    go_ret
    exact ⟨rfl, F, HH.out, Grew.refl _ _, Untouched.refl _ _⟩
  · have d1 : decide (64 ≤ (r : Int)) = false := decide_eq_false (by omega)
    have d2 : decide (64 ≤ r) = false := decide_eq_false (by omega)
    rw [if_neg h64, if_neg h64]
    obtain ⟨wa, hwa⟩ : ∃ w1, w.alloc (.cells #[.slice A0 n0 c0] 23) = w1 := ⟨_, rfl⟩
    have hba : Below w.heap.size w wa := by rw [← hwa]; exact (Below.refl _ _).alloc (Nat.le_refl _) _
    have ha := h.below hba
    have hca : wa.cell? ⟨q, k * 2, none⟩ = some (.slice A r c) := by rw [← hwa]; exact (World.cell?_alloc_lt w _ ⟨q, k * 2, none⟩ (h.hF q h.hq)).trans hc
    have hka : Keeps8 F w wa := Keeps8.of_untouched (G := []) (Untouched.of_below hba) h.hF fun k _ hk => by cases hk
    have hra := hr.keep (w' := wa) (F' := F) (fun g e => hba.block g (hr.lt g e).1) hka (fun k hk => hk)
    have hma := hm.keep hka (F' := F) (fun k hk => hk)
    have hcb : wa.cell? ⟨w.heap.size, 0, none⟩ = some (.slice A0 n0 c0) := by rw [← hwa]; exact World.cell?_alloc_mark _ _ _ _ _
    have HA := hidv_ ha
    have HRA := hidv_ hra
    have HMA := hidv_ hma
    have HLR := hidv_ hlr
    have HL := hidv_ hl
    have HBA := hidv_ hba
    have HCA := hidv_ hca
    have HCB := hidv_ hcb
    have HWA := hidv_ hwa
    have h6 : r + 1 ≤ 1000000 := by omega
    clear h hr hm ha hra hma hl hlr hba hka hca hcb h64
    go_enter Try.func23, Try.ntmps23
    go_upto_region 3 with fail
    go_wp2_with (at_builtin; go_loud (refine wpList_appF rfl (.tmp 15) (.tmp 17) rfl HRA.out HA.out.hF rfl w.heap.size 1 rfl (.slice A0 n0 c0) rfl HCB.out HMA.out r HLR.out h6 ?_); intro A' c' w2 k1 k2 k3 k4; obtain ⟨hput, hpc, hpf⟩ := HA.out.put (k * 2) (by omega) HCA.out k2 (F' := since F wa w2) (fun k hk => mem_since.2 (.inl hk)) (since_lt HA.out.hF k2.size) k1 (k4.elim (fun e => .inr (.inl e)) (fun e => .inr (.inr ⟨_, e, Nat.le_refl _⟩))); have HPUT := hidv_ hput; clear hput k1 k2 k3 k4)
    go_wp2
    go_ret
    exact ⟨rfl, since F wa w2, HPUT.out.1, fun k hk => (grew_since F wa w2 k hk).imp id (fun h => Nat.le_trans HBA.out.size h), (Untouched.of_below HBA.out).trans (Grew.refl _ _) HPUT.out.2.1⟩
set_option maxRecDepth 100000 in
set_option maxHeartbeats 4000000 in
/-- Send to a box that there is. -/
theorem send_yes {w : World} {p q n : Nat} {L : List (List (List UInt8))} {F : List Nat} (h : NetF w p q n L F) (k : Nat) (hk : k < n) (A0 : Option Addr) (n0 c0 : Nat) (m : List UInt8) (hn0 : m.length = n0) (hr : Rd w w.heap.size A0 m) (hn7 : n0 ≤ 140737488355328) :
    Calls Try.prog 10 #[.pointer (some ⟨p, 0, none⟩), .int .i64 (k : Int), .slice A0 n0 c0] w (NetP w p q n (addL L k m) F (addE L k)) := by
  have ci := inbox_yes h k hk
  have cc := clone_any A0 n0 c0 m w hn0 hr hn7
  have HH := hidv_ h
  have HN := hidv_ hn0
  obtain ⟨L', hL'⟩ : ∃ x, addL L k m = x := ⟨_, rfl⟩
  obtain ⟨z, hz⟩ : ∃ x, addE L k = x := ⟨_, rfl⟩
  have HL := hidv_ hL'
  have HZ := hidv_ hz
  rw [hL', hz]
  clear h hr hn0 hL' hz
  go_enter Try.func10, Try.ntmps10
  go_wp2_with (first
    | (go_at_call 19; ((with_reducible refine ci.mono ?_); clear ci; rintro e w' ⟨rfl, rfl⟩))
    | (go_at_call 22; ((with_reducible refine cc.mono ?_); clear cc; rintro e w1 ⟨A1, c1, rfl, ho, hb⟩; have ca := add_any ((HH.out.below hb).more (F' := since F w w1) (fun k hk => mem_since.2 (.inl hk)) (since_lt HH.out.hF hb.size)) k hk A1 n0 c1 m HN.out (ho.bitF fun k h1 h2 => mem_since.2 (.inr ⟨h1, h2⟩)); rw [HL.out, HZ.out] at ca; have HB := hidv_ hb; clear ho hb))
    | (go_at_call 23; ((with_reducible refine ca.mono ?_); clear ca; rintro e w2 ⟨rfl, F', h1, h2, h3⟩; have H1 := hidv_ h1; have H2 := hidv_ h2; have H3 := hidv_ h3; clear h1 h2 h3)))
  go_ret
  exact ⟨rfl, F', H1.out, (grew_since F w w1).trans HB.out.size H2.out, (Untouched.of_below HB.out).trans (grew_since F w w1) H3.out⟩
set_option maxRecDepth 100000 in
set_option maxHeartbeats 1000000 in
theorem send_no {w : World} {P : Option Addr} (z : Int) (ci : Calls Try.prog 19 #[.pointer P, .int .i64 z] w fun e w' => e = .returned (.pointer none) ∧ w = w') (v : Value) :
    Calls Try.prog 10 #[.pointer P, .int .i64 z, v] w fun e w' => e = .returned (.int .i64 1) ∧ w = w' := by
  go_enter Try.func10, Try.ntmps10
  go_wp2_with (go_at_call 19; ((with_reducible refine ci.mono ?_); clear ci; rintro e w' ⟨rfl, rfl⟩))
  go_ret
  exact ⟨rfl, rfl⟩
set_option maxRecDepth 100000 in
set_option maxHeartbeats 1000000 in
theorem copy_no {w : World} {P : Option Addr} (z : Int) (ci : Calls Try.prog 19 #[.pointer P, .int .i64 z] w fun e w' => e = .returned (.pointer none) ∧ w = w') (y : Int) :
    Calls Try.prog 11 #[.pointer P, .int .i64 z, .int .i64 y] w fun e w' => e = .returned (.int .i64 1) ∧ w = w' := by
  go_enter Try.func11, Try.ntmps11
  go_wp2_with (go_at_call 19; ((with_reducible refine ci.mono ?_); clear ci; rintro e w' ⟨rfl, rfl⟩))
  go_ret
  exact ⟨rfl, rfl⟩
set_option maxRecDepth 100000 in
set_option maxHeartbeats 1000000 in
theorem take_no {w : World} {P : Option Addr} (z : Int) (ci : Calls Try.prog 19 #[.pointer P, .int .i64 z] w fun e w' => e = .returned (.pointer none) ∧ w = w') (y : Int) :
    Calls Try.prog 7 #[.pointer P, .int .i64 z, .int .i64 y] w fun e w' => e = .returned (.tuple #[.slice none 0 0, .int .i64 1]) ∧ w = w' := by
  go_enter Try.func7, Try.ntmps7
  go_wp2_with (go_at_call 19; ((with_reducible refine ci.mono ?_); clear ci; rintro e w' ⟨rfl, rfl⟩))
  go_ret2
  exact ⟨rfl, rfl⟩
set_option maxRecDepth 100000 in
set_option maxHeartbeats 1000000 in
theorem clear_no {w : World} {P : Option Addr} (z : Int) (ci : Calls Try.prog 19 #[.pointer P, .int .i64 z] w fun e w' => e = .returned (.pointer none) ∧ w = w') :
    Calls Try.prog 8 #[.pointer P, .int .i64 z] w fun e w' => e = .returned (.tuple #[]) ∧ w = w' := by
  go_enter Try.func8, Try.ntmps8
  go_wp2_with (go_at_call 19; ((with_reducible refine ci.mono ?_); clear ci; rintro e w' ⟨rfl, rfl⟩))
  first | (go_ret; exact ⟨rfl, rfl⟩) | (go_end0; exact ⟨rfl, rfl⟩) | (refine bodyPost_ret (results_none rfl _ _ _) rfl ?_; exact ⟨rfl, rfl⟩)
end Go.Proofs.Ytdkemjipbkanoaa
