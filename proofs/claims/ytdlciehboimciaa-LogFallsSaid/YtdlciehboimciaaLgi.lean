/-
  log: what lies behind a Log's pointer; what is asked of it.
-/
import Derived.Test.YtdlciehboimciaaLA
import Derived.Test.YtdlciehboimciaaDD
import Derived.Test.YtdlciehboimciaaQc
import Derived.BigQuiet
namespace Go.Proofs.Ytdlciehboimciaa
set_option maxRecDepth 100000
open Go.RowKit
set_option linter.unusedVariables false
set_option linter.unusedSimpArgs false

/-- A Log: its disk's pointer, its last head, and whether it met ErrDown. -/
def LgB (w : World) (g p t a c : Nat) (down : Bool) : Prop := Bk w g 72 #[.pointer (some ⟨p, 0, none⟩), .int .i64 (t : Int), .int .i64 (a : Int), .int .i64 (c : Int), .bool down]
theorem LgB.cells {w : World} {g p t a c : Nat} {down : Bool} (h : LgB w g p t a c down) : w.cell? ⟨g, 0, none⟩ = some (.pointer (some ⟨p, 0, none⟩)) ∧ w.cell? ⟨g, 1, none⟩ = some (.int .i64 (t : Int)) ∧ w.cell? ⟨g, 2, none⟩ = some (.int .i64 (a : Int)) ∧ w.cell? ⟨g, 3, none⟩ = some (.int .i64 (c : Int)) ∧ w.cell? ⟨g, 4, none⟩ = some (.bool down) :=
  ⟨Bk.cell h 0, Bk.cell h 1, Bk.cell h 2, Bk.cell h 3, Bk.cell h 4⟩
theorem LgB.at_ {w w' : World} {g p t a c : Nat} {down : Bool} (h : LgB w g p t a c down) (he : w'.heap[g]? = w.heap[g]?) : LgB w' g p t a c down := he.trans h
section
variable {w : World} {g p t a c : Nat} {down : Bool}
set_option maxRecDepth 100000 in
set_option maxHeartbeats 1000000 in
theorem lmade_yes (h : LgB w g p t a c down) : Calls Try.prog 35 #[.pointer (some ⟨g, 0, none⟩)] w fun e w' => e = .returned (.bool true) ∧ w = w' := by
  obtain ⟨c0, _, _, _, _⟩ := h.cells
  clear h
  go_enter Try.func35, Try.ntmps35
  go_wp2
  go_ret
  exact ⟨rfl, rfl⟩
set_option maxRecDepth 100000 in
set_option maxHeartbeats 1000000 in
theorem lmade_nil (w : World) : Calls Try.prog 35 #[.pointer none] w fun e w' => e = .returned (.bool false) ∧ w = w' := by
  go_enter Try.func35, Try.ntmps35
  go_wp2
  go_ret
  exact ⟨rfl, rfl⟩
set_option maxRecDepth 100000 in
set_option maxHeartbeats 1000000 in
theorem lturn_any (h : LgB w g p t a c down) : Calls Try.prog 18 #[.pointer (some ⟨g, 0, none⟩)] w fun e w' => e = .returned (.int .i64 (t : Int)) ∧ w = w' := by
  have cm := lmade_yes h
  obtain ⟨c0, c1, _, _, _⟩ := h.cells
  clear h
  go_enter Try.func18, Try.ntmps18
  go_wp2_with (go_at_call 35; ((with_reducible refine cm.mono ?_); clear cm; rintro e w' ⟨rfl, rfl⟩))
  go_ret
  exact ⟨rfl, rfl⟩
section
variable {b0 q n : Nat} {F : List (List UInt8)} {R : List WrV} {fu : Nat} {off : Bool}
set_option maxRecDepth 100000 in
set_option maxHeartbeats 1000000 in
theorem lleft_any (h : LgB w g p t a c down) (hd : DkI b0 w p q n F R fu off) (h4 : 4 ≤ n) (h9 : n ≤ 8192) (hc : c ≤ roomN n) : Calls Try.prog 19 #[.pointer (some ⟨g, 0, none⟩)] w fun e w' => e = .returned (.int .i64 ((roomN n - c : Nat) : Int)) ∧ Below w.heap.size w w' := by
  have cm := lmade_yes h
  have hlt : g < w.heap.size := Bk.lt h
  have hb : roomN n ≤ 1000000 := by unfold roomN secsA; omega
  have hw : IntKind.i64.wrap ((roomN n : Int) - (c : Int)) = ((roomN n - c : Nat) : Int) := by rw [IntWalk.i64_in _ (by omega)]; omega
  have Q0 := hidg_ (fun W (hW : Below w.heap.size w W) => (h.at_ (hW.block g hlt)).cells.1)
  have Q3 := hidg_ (fun W (hW : Below w.heap.size w W) => (h.at_ (hW.block g hlt)).cells.2.2.2.1)
  have QS := hidg_ (fun W (hW : Below w.heap.size w W) => (dsize_yes (hd.below hW)).mono fun e w' hh => (show e = .returned (.int .i64 (n : Int)) ∧ Below w.heap.size w w' from ⟨hh.1, hh.2 ▸ hW⟩))
  have QR := hidg_ (fun W (hW : Below w.heap.size w W) => (room_any n h4 h9 W).mono fun e w' hh => (show e = .returned (.int .i64 (roomN n : Int)) ∧ Below w.heap.size w w' from ⟨hh.1, hh.2 ▸ hW⟩))
  generalize ((roomN n - c : Nat) : Int) = z at *
  generalize roomN n = r at *
  clear h hd hb hc hlt
  go_enter Try.func19, Try.ntmps19
  go_upto_region 3 with (go_at_call 35; ((with_reducible refine cm.mono ?_); clear cm; rintro e w' ⟨rfl, rfl⟩))
  refine region_quiet_in (C := fun W => Below w.heap.size w W) (by kernel_rfl) (by kernel_rfl) ((Below.refl _ _).drew) ?_
  (go_big_quiet_want; (refine BigFrame.quiet_move _ rfl ?_; go_simp); go_big_quiet_on)
  (go_big_quiet_want; (refine quiet_run (.pointer (some ⟨g, 0, none⟩)) ?_ ?_; (focus (intro W hW; go_simp; done)); go_simp); go_big_quiet_on)
  (go_big_quiet_want; (refine quiet_run (.pointer (some ⟨g, 0, none⟩)) ?_ ?_; (focus (intro W hW; go_simp; done)); go_simp); go_big_quiet_on)
  (go_big_quiet_want; (refine quiet_run (.pointer (some ⟨p, 0, none⟩)) ?_ ?_; (focus (intro W hW; have h := Q0.out W hW; go_simp; done)); go_simp); go_big_quiet_on)
  (go_big_quiet_want; (refine quiet_call (.int .i64 (n : Int)) 29 #[.pointer (some ⟨p, 0, none⟩)] ?_ QS.out ?_; (focus (intro W; go_simp; done)); go_simp); go_big_quiet_on)
  (go_big_quiet_want; (refine quiet_call (.int .i64 (r : Int)) 34 #[.int .i64 (n : Int)] ?_ QR.out ?_; (focus (intro W; go_simp; done)); go_simp); go_big_quiet_on)
  (go_big_quiet_want; (refine BigFrame.quiet_move _ rfl ?_; go_simp); go_big_quiet_on)
  (go_big_quiet_want; (refine quiet_run (.pointer (some ⟨g, 0, none⟩)) ?_ ?_; (focus (intro W hW; go_simp; done)); go_simp); go_big_quiet_on)
  (go_big_quiet_want; (refine quiet_run (.pointer (some ⟨g, 1, none⟩)) ?_ ?_; (focus (intro W hW; go_simp; done)); go_simp); go_big_quiet_on)
  (go_big_quiet_want; (refine quiet_run (.pointer (some ⟨g, 3, none⟩)) ?_ ?_; (focus (intro W hW; go_simp; done)); go_simp); go_big_quiet_on)
  (go_big_quiet_want; (refine quiet_run (.int .i64 (c : Int)) ?_ ?_; (focus (intro W hW; have h := Q3.out W hW; go_simp; done)); go_simp); go_big_quiet_on)
  (go_big_quiet_want; (refine quiet_run (.int .i64 z) ?_ ?_; (focus (intro W hW; go_simp; done)); go_simp); go_big_quiet_on)
  (go_big_quiet_want; (refine BigFrame.quiet_assign _ rfl ?_; go_simp); go_big_quiet_on)
  refine wpQuiet_nil ?_
  intro w2 hw2
  have h2 : Below w.heap.size w w2 := hw2
  clear hw2
  go_wp2
  go_ret
  exact ⟨rfl, h2⟩
set_option maxRecDepth 100000 in
set_option maxHeartbeats 1000000 in
theorem hasRoom_any (h : LgB w g p t a c down) (hd : DkI b0 w p q n F R fu off) (h4 : 4 ≤ n) (h9 : n ≤ 8192) (ht : t < 9223372036854775807) (m : Nat) : Calls Try.prog 31 #[.pointer (some ⟨g, 0, none⟩), .int .i64 (m : Int)] w fun e w' => e = .returned (.bool (decide (m ≤ roomN n))) ∧ w = w' := by
  have cs := dsize_yes hd
  have cr := room_any n h4 h9 w
  obtain ⟨c0, c1, _, _, _⟩ := h.cells
  have d1 : decide ((t : Int) < 9223372036854775807) = true := decide_eq_true (by omega)
  clear h hd
  by_cases hm : m ≤ roomN n
  · rw [decide_eq_true hm]
    have d2 : decide ((m : Int) ≤ (roomN n : Int)) = true := decide_eq_true (by omega)
    generalize roomN n = r at *
    generalize (m : Int) = z at *
    go_enter Try.func31, Try.ntmps31
    go_wp2_with (first
      | (go_at_call 29; ((with_reducible refine cs.mono ?_); clear cs; rintro e w' ⟨rfl, rfl⟩))
      | (go_at_call 34; ((with_reducible refine cr.mono ?_); clear cr; rintro e w' ⟨rfl, rfl⟩)))
    go_ret
    exact ⟨rfl, rfl⟩
  · rw [decide_eq_false hm]
    have d2 : decide ((m : Int) ≤ (roomN n : Int)) = false := decide_eq_false (by omega)
    generalize roomN n = r at *
    generalize (m : Int) = z at *
    go_enter Try.func31, Try.ntmps31
    go_wp2_with (first
      | (go_at_call 29; ((with_reducible refine cs.mono ?_); clear cs; rintro e w' ⟨rfl, rfl⟩))
      | (go_at_call 34; ((with_reducible refine cr.mono ?_); clear cr; rintro e w' ⟨rfl, rfl⟩)))
    go_ret
    exact ⟨rfl, rfl⟩
end
end
end Go.Proofs.Ytdlciehboimciaa
