/-
  net: Take, Copy where there is no such message; Copy, Clear, Seen; New.
-/
import Derived.Test.YtdkemjipbkanoaaVd
namespace Go.Proofs.Ytdkemjipbkanoaa
open Go.RowKit
set_option linter.unusedVariables false
set_option linter.unusedSimpArgs false

set_option maxRecDepth 100000 in
set_option maxHeartbeats 4000000 in
theorem take_miss {w : World} {p q n : Nat} {L : List (List (List UInt8))} {F : List Nat} (h : NetF w p q n L F) (k : Nat) (hk : k < n) (z : Int) (hz : z < 0 ∨ ((L.getD (k * 2) []).length : Int) ≤ z) :
    Calls Try.prog 7 #[.pointer (some ⟨p, 0, none⟩), .int .i64 (k : Int), .int .i64 z] w fun e w' => e = .returned (.tuple #[.slice none 0 0, .int .i64 7]) ∧ w = w' := by
  obtain ⟨A, c, hc, hrow, hcl, hcm⟩ := h.at_ (k * 2) (by omega)
  have ci := inbox_yes h k hk
  have ch := has_any (w := w) q (k * 2) _ _ _ hc z
  have d1 : (decide (0 ≤ z) && decide (z < ((L.getD (k * 2) []).length : Int))) = false := by
    rcases hz with g | g
    · rw [decide_eq_false (by omega)]; rfl
    · rw [decide_eq_false (show ¬ z < _ by omega), Bool.and_false]
  rw [d1] at ch
  clear h hc hrow hcl d1 hz
  go_enter Try.func7, Try.ntmps7
  go_wp2_with (first
    | (go_at_call 19; ((with_reducible refine ci.mono ?_); clear ci; rintro e w' ⟨rfl, rfl⟩))
    | (go_at_call 20; ((with_reducible refine ch.mono ?_); clear ch; rintro e w' ⟨rfl, rfl⟩)))
  go_ret2
  exact ⟨rfl, rfl⟩
set_option maxRecDepth 100000 in
set_option maxHeartbeats 4000000 in
theorem copy_miss {w : World} {p q n : Nat} {L : List (List (List UInt8))} {F : List Nat} (h : NetF w p q n L F) (k : Nat) (hk : k < n) (z : Int) (hz : z < 0 ∨ ((L.getD (k * 2) []).length : Int) ≤ z) :
    Calls Try.prog 11 #[.pointer (some ⟨p, 0, none⟩), .int .i64 (k : Int), .int .i64 z] w fun e w' => e = .returned (.int .i64 7) ∧ w = w' := by
  obtain ⟨A, c, hc, hrow, hcl, hcm⟩ := h.at_ (k * 2) (by omega)
  have ci := inbox_yes h k hk
  have ch := has_any (w := w) q (k * 2) _ _ _ hc z
  have d1 : (decide (0 ≤ z) && decide (z < ((L.getD (k * 2) []).length : Int))) = false := by
    rcases hz with g | g
    · rw [decide_eq_false (by omega)]; rfl
    · rw [decide_eq_false (show ¬ z < _ by omega), Bool.and_false]
  rw [d1] at ch
  clear h hc hrow hcl d1 hz
  go_enter Try.func11, Try.ntmps11
  go_wp2_with (first
    | (go_at_call 19; ((with_reducible refine ci.mono ?_); clear ci; rintro e w' ⟨rfl, rfl⟩))
    | (go_at_call 20; ((with_reducible refine ch.mono ?_); clear ch; rintro e w' ⟨rfl, rfl⟩)))
  go_ret
  exact ⟨rfl, rfl⟩
set_option maxRecDepth 100000 in
set_option maxHeartbeats 4000000 in
theorem copy_yes {w : World} {p q n : Nat} {L : List (List (List UInt8))} {F : List Nat} (h : NetF w p q n L F) (k : Nat) (hk : k < n) (i : Nat) (hi : i < (L.getD (k * 2) []).length) (hl6 : (L.getD (k * 2) []).length ≤ 1000000) :
    Calls Try.prog 11 #[.pointer (some ⟨p, 0, none⟩), .int .i64 (k : Int), .int .i64 (i : Int)] w (NetP w p q n (addL L k ((L.getD (k * 2) []).getD i [])) F (addE L k)) := by
  obtain ⟨A, c, hc, hrow, hcl, hcm⟩ := h.at_ (k * 2) (by omega)
  have ci := inbox_yes h k hk
  obtain ⟨g, u, rfl, hcu, hbu, hgl⟩ := hrow.cell i hi
  obtain ⟨Au, cu, rfl, _, _, _⟩ := hbu.rd
  have ch := has_any (w := w) q (k * 2) _ _ _ hc (i : Int)
  have d1 : decide (0 ≤ (i : Int)) = true := decide_eq_true (by omega)
  have d2 : decide ((i : Int) < ((L.getD (k * 2) []).length : Int)) = true := decide_eq_true (by omega)
  rw [d1, d2] at ch
  have ca := add_any h k hk _ _ _ _ rfl hbu
  obtain ⟨L', hL'⟩ : ∃ x, addL L k ((L.getD (k * 2) []).getD i []) = x := ⟨_, rfl⟩
  obtain ⟨z, hz⟩ : ∃ x, addE L k = x := ⟨_, rfl⟩
  rw [hL', hz] at ca ⊢
  generalize (L.getD (k * 2) []).length = m at *
  generalize ((L.getD (k * 2) []).getD i []).length = r at *
  have t0 : (0 : Int) ≤ (i : Int) := by omega
  have tn : (i : Int) < (m : Int) := by omega
  clear h hrow hcl hL' hz d1 d2 hbu
  go_enter Try.func11, Try.ntmps11
  go_wp2_with (first
    | (go_at_call 19; ((with_reducible refine ci.mono ?_); clear ci; rintro e w' ⟨rfl, rfl⟩))
    | (go_at_call 20; ((with_reducible refine ch.mono ?_); clear ch; rintro e w' ⟨rfl, rfl⟩))
    | (go_at_call 23; ((with_reducible refine ca.mono ?_); clear ca; rintro e w2 ⟨rfl, hh⟩; have HX := hidv_ hh; clear hh)))
  go_ret
  exact ⟨rfl, HX.out⟩
set_option maxRecDepth 100000 in
set_option maxHeartbeats 4000000 in
theorem clear_yes {w : World} {p q n : Nat} {L : List (List (List UInt8))} {F : List Nat} (h : NetF w p q n L F) (k : Nat) (hk : k < n) :
    Calls Try.prog 8 #[.pointer (some ⟨p, 0, none⟩), .int .i64 (k : Int)] w fun e w' => e = .returned (.tuple #[]) ∧ NetF w' p q n (L.set (k * 2) []) F ∧ Untouched F w w' := by
  obtain ⟨A, c, hc, hrow, hcl, hcm⟩ := h.at_ (k * 2) (by omega)
  have ci := inbox_yes h k hk
  obtain ⟨hput, hpc, hpf⟩ := h.put (k * 2) (by omega) hc (World.grownBy.refl _ _) (F' := F) (fun k hk => hk) h.hF (RowF.nil_ w F) (.inl rfl)
  have HP := hidv_ hput
  clear h hrow hput
  go_enter Try.func8, Try.ntmps8
  go_wp2_with (go_at_call 19; ((with_reducible refine ci.mono ?_); clear ci; rintro e w' ⟨rfl, rfl⟩))
  first | (go_end0; exact ⟨rfl, HP.out.1, HP.out.2.1⟩) | (refine bodyPost_ret (results_none rfl _ _ _) rfl ?_; exact ⟨rfl, HP.out.1, HP.out.2.1⟩)
set_option maxRecDepth 100000 in
set_option maxHeartbeats 4000000 in
theorem seen_no {w : World} {P : Option Addr} (z : Int) (ci : Calls Try.prog 19 #[.pointer P, .int .i64 z] w fun e w' => e = .returned (.pointer none) ∧ w = w') :
    Calls Try.prog 13 #[.pointer P, .int .i64 z] w fun e w' => e = .returned (.slice none 0 0) ∧ w = w' := by
  go_enter Try.func13, Try.ntmps13
  go_wp2_with (go_at_call 19; ((with_reducible refine ci.mono ?_); clear ci; rintro e w' ⟨rfl, rfl⟩))
  go_ret
  exact ⟨rfl, rfl⟩
set_option maxRecDepth 100000 in
set_option maxHeartbeats 4000000 in
theorem new_no (w : World) (z : Int) (hz : z < 1 ∨ 9 < z) :
    Calls Try.prog 14 #[.int .i64 z] w fun e w' => e = .returned (.tuple #[.pointer none, .int .i64 1]) ∧ w = w' := by
  by_cases h0 : z < 1
  · have d1 : decide (z < 1) = true := decide_eq_true h0
    clear h0 hz
    go_enter Try.func14, Try.ntmps14
    go_wp2
    go_ret2
    exact ⟨rfl, rfl⟩
  · have d1 : decide (z < 1) = false := decide_eq_false h0
    have d2 : decide (9 < z) = true := decide_eq_true (by omega)
    clear h0 hz
    go_enter Try.func14, Try.ntmps14
    go_wp2
    go_ret2
    exact ⟨rfl, rfl⟩
theorem infoBx : (Try.prog.info? 57).map (fun i => (i.zero, i.size, i.bytes)) = some (some (.agg #[.slice none 0 0, .slice none 0 0]), 2, 48) := by kernel_rfl
def boxC (n : Nat) : Array Value := madeCells (Value.agg #[.slice none 0 0, .slice none 0 0]).cells (n * 2)
theorem boxC_size (n : Nat) : (boxC n).size = n * 2 := by unfold boxC; exact size_madeCells _ _
theorem boxC_at (n j : Nat) (h : j < n * 2) : (boxC n)[j]? = some (.slice none 0 0) := by
  rw [Array.getElem?_eq_getElem (by rw [boxC_size]; exact h)]
  simp only [boxC, madeCells, Value.cells, Array.getElem_map, Array.getElem_range]
  rcases (by have : j % 2 < 2 := Nat.mod_lt _ (by omega); omega : j % 2 = 0 ∨ j % 2 = 1) with e | e <;> simp [e]
theorem mkBx (n : Nat) (h9 : n ≤ 9) (w : World) : (Instr.makeSlice 61 (.int .i64 (n : Int)) (.int .i64 (n : Int))).run Try.prog w = .ok (.slice (some ⟨w.heap.size, 0, none⟩) n n) (w.alloc (.cells (boxC n) 57)) := by
  obtain ⟨i, hi, hz, hsize, hby⟩ := info_parts infoBx
  have h := run_make (P := Try.prog) w 61 57 i _ Try.underlying61 hi hz .i64 .i64 (n : Int) (n : Int) (by omega) (by omega) (by rw [hby]; omega) (by omega)
  rw [hsize] at h
  simpa [boxC] using h
theorem net_new (w : World) (n : Nat) (h9 : n ≤ 9) : NetF ((w.alloc (.cells (boxC n) 57)).alloc (.cells #[.slice (some ⟨w.heap.size, 0, none⟩) n n] 63)) (w.heap.size + 1) w.heap.size n (List.replicate (2 * n) []) [w.heap.size + 1, w.heap.size] := by
  refine ⟨fun k hk => ?_, by simp, by simp, ?_, by simp, h9, boxC n, (Bk.new w 57 (boxC n)).alloc _, by rw [boxC_size]; omega, fun j hj => ⟨_, boxC_at n j (by omega), ?_⟩, fun i j v v' hij hv hv' g hg => ?_⟩
  · simp at hk ⊢
    omega
  · have := Bk.new (w.alloc (.cells (boxC n) 57)) 63 #[.slice (some ⟨w.heap.size, 0, none⟩) n n]
    simpa using this
  · have : (List.replicate (2 * n) ([] : List (List UInt8))).getD j [] = [] := by simp [List.getD, hj]
    rw [this]
    exact RowF.nil_ _ _
  · have hi := (Array.getElem?_eq_some_iff.1 hv).1
    rw [boxC_size] at hi
    rw [boxC_at n i hi] at hv
    obtain rfl := Option.some.inj hv
    cases hg
set_option maxRecDepth 100000 in
set_option maxHeartbeats 4000000 in
theorem new_yes (w : World) (n : Nat) (h1 : 1 ≤ n) (h9 : n ≤ 9) :
    Calls Try.prog 14 #[.int .i64 (n : Int)] w fun e w' => ∃ p q F, e = .returned (.tuple #[.pointer (some ⟨p, 0, none⟩), .int .i64 0]) ∧ NetF w' p q n (List.replicate (2 * n) []) F ∧ (∀ k ∈ F, w.heap.size ≤ k) ∧ Below w.heap.size w w' := by
  have d1 : decide ((n : Int) < 1) = false := decide_eq_false (by omega)
  have d2 : decide (9 < (n : Int)) = false := decide_eq_false (by omega)
  have hm := mkBx n h9 w
  have HN := hidv_ (net_new w n h9)
  go_enter Try.func14, Try.ntmps14
  go_wp2
  go_ret2
  exact ⟨w.heap.size + 1, w.heap.size, _, by simp, HN.out, fun k hk => by simp at hk; omega, ((Below.refl _ _).alloc (Nat.le_refl _) _).alloc (by simp) _⟩
theorem RowF.sub {w : World} {F F' : List Nat} {v : Value} {t : List (List UInt8)} (h : RowF w F v t) (hF : ∀ k ∈ F, k ∈ F') : RowF w F' v t := h.keep (fun _ _ => rfl) ⟨Nat.le_refl _, fun _ _ _ _ _ => rfl⟩ hF
theorem RowF.step {w wr w2 : World} {v : Value} {t : List (List UInt8)} {msg : List UInt8} {A5 : Option Addr} {m c5 : Nat} (h : RowF wr (since [] w wr) v t) (hb0 : Below w.heap.size w wr) (ho : Own8 w2 wr.heap.size (.slice A5 m c5) msg) (hb : Below wr.heap.size wr w2) :
    RowF (w2.alloc (.cells #[.slice A5 m c5] 23)) (since [] w w2) v t ∧ BitF (w2.alloc (.cells #[.slice A5 m c5] 23)) (since [] w w2) (.slice A5 m c5) msg ∧ Below w.heap.size w (w2.alloc (.cells #[.slice A5 m c5] 23)) ∧ (∀ k ∈ since [] w w2, k < (w2.alloc (.cells #[.slice A5 m c5] 23)).heap.size) := by
  have hba : Below w2.heap.size w2 (w2.alloc (.cells #[.slice A5 m c5] 23)) := (Below.refl _ _).alloc (Nat.le_refl _) _
  have hb2 : Below wr.heap.size wr (w2.alloc (.cells #[.slice A5 m c5] 23)) := hb.trans (hba.mono hb.size)
  have hs : ∀ k ∈ since [] w wr, k < wr.heap.size := since_lt (fun k hk => by cases hk) hb0.size
  have hs2 : ∀ k ∈ since [] w w2, k < w2.heap.size := since_lt (fun k hk => by cases hk) (Nat.le_trans hb0.size hb.size)
  have hk : Keeps8 (since [] w wr) wr (w2.alloc (.cells #[.slice A5 m c5] 23)) := ⟨hb2.size, fun b hb _ _ _ => hb2.block b (hs b hb)⟩
  refine ⟨h.keep (fun g e => hb2.block g (h.lt g e).1) hk fun k hk => ?_, (ho.bitF fun k h1 h2 => mem_since.2 (.inr ⟨Nat.le_trans hb0.size h1, h2⟩)).keep ⟨hba.size, fun b hb _ _ _ => hba.block b (hs2 b hb)⟩ fun k hk => hk, hb0.trans (hb2.mono hb0.size), fun k hk => Nat.lt_of_lt_of_le (hs2 k hk) hba.size⟩
  rcases mem_since.1 hk with h1 | h1
  · cases h1
  · exact mem_since.2 (.inr ⟨h1.1, Nat.lt_of_lt_of_le h1.2 hb.size⟩)
set_option maxRecDepth 100000 in
set_option maxHeartbeats 4000000 in
theorem seen_yes {w : World} {p q n : Nat} {L : List (List (List UInt8))} {F : List Nat} (h : NetF w p q n L F) (k : Nat) (hk : k < n) (r : Nat) (hr : (L.getD (k * 2 + 1) []).length = r) (hr6 : r ≤ 100000) (hb7 : ∀ m ∈ L.getD (k * 2 + 1) [], m.length ≤ 140737488355328) :
    Calls Try.prog 13 #[.pointer (some ⟨p, 0, none⟩), .int .i64 (k : Int)] w fun e w' => ∃ A c G, e = .returned (.slice A r c) ∧ RowF w' G (.slice A r c) (L.getD (k * 2 + 1) []) ∧ (∀ k ∈ G, w.heap.size ≤ k ∧ k < w'.heap.size) ∧ Below w.heap.size w w' := by
  obtain ⟨A, c, hc, hrow, hcl, hcm⟩ := h.at_ (k * 2 + 1) (by omega)
  have ci := inbox_yes h k hk
  obtain ⟨l, hl⟩ : ∃ l, L.getD (k * 2 + 1) [] = l := ⟨_, rfl⟩
  rw [hl] at hc hrow hcl hr hb7 ⊢
  rw [hr] at hc hrow hcl
  have HH := hidv_ h
  have HROW := hidv_ hrow
  have HR := hidv_ hr
  have HB7 := hidv_ hb7
  clear h hrow hr hb7 hl
  go_enter Try.func13, Try.ntmps13
  go_wp2_with (go_at_call 19; ((with_reducible refine ci.mono ?_); clear ci; rintro e w' ⟨rfl, rfl⟩))
  go_loopw [6, 19] (fun v i wr => ∃ (j : Nat) (A' : Option Addr) (c' : Nat), j ≤ r ∧ i = .int .i64 j ∧ v = .slice A' j c' ∧ Hid (RowF wr (since [] w wr) (.slice A' j c') (l.take j)) ∧ Hid (Below w.heap.size w wr)) (fun _ i _ => r - (intOf i).toNat)
  case atStart => exact ⟨0, none, 0, Nat.zero_le _, rfl, rfl, RowF.nil_ _ _, Below.refl _ _⟩
  case round =>
    obtain ⟨j, A', c', hj, rfl, rfl, HV, HBW⟩ := hrel
    by_cases hlt : j < r
    · obtain ⟨g, u, rfl, hcu, hbu, hgl⟩ := HROW.out.cell j (by rw [HR.out]; exact hlt)
      obtain ⟨Au, cu, rfl, _, _, hrd⟩ := hbu.rd
      obtain ⟨msg, hmsg⟩ : ∃ x, l.getD j [] = x := ⟨_, rfl⟩
      have hmem : msg ∈ l := by
        have : j < l.length := by rw [HR.out]; exact hlt
        rw [← hmsg]
        simp only [List.getD, List.getElem?_eq_getElem this, Option.getD_some]
        exact List.getElem_mem this
      have hm7 := HB7.out msg hmem
      rw [hmsg] at hcu hrd
      obtain ⟨m, hm⟩ : ∃ m, msg.length = m := ⟨_, rfl⟩
      rw [hm] at hcu hm7
      have hcw : wr.cell? ⟨g, j, none⟩ = some (.slice Au m cu) := (HBW.out.cell (p := ⟨g, j, none⟩) hgl).trans hcu
      have cc := clone_any Au m cu msg wr hm ((hrd.below HBW.out).more HBW.out.size) hm7
      have HS := hidv_ (show l.take (j + 1) = l.take j ++ [msg] by
        have : j < l.length := by rw [HR.out]; exact hlt
        rw [List.take_succ_eq_append_getElem this, ← hmsg]
        simp [List.getD, this])
      have HJ := hidv_ (show (l.take j).length = j by rw [List.length_take, HR.out]; omega)
      have t0 : (0 : Int) ≤ (j : Int) := by omega
      have tn : (j : Int) < (r : Int) := by omega
      have h6 : j + 1 ≤ 1000000 := by omega
      have HLT := hidv_ HV.out.lt
      clear hbu hrd hmsg hcu hmem hm
      go_wp2_with (first
        | (go_at_call 22; ((with_reducible refine cc.mono ?_); clear cc; rintro e w2 ⟨A5, c5, rfl, ho, hb⟩; obtain ⟨s1, s2, s3, s4⟩ := HV.out.step HBW.out ho hb; have S1 := hidv_ s1; have S2 := hidv_ s2; have S3 := hidv_ s3; have S4 := hidv_ s4; have HB2 := hidv_ hb; clear ho hb s1 s2 s3 s4))
        | (at_builtin; refine wpList_appF rfl (.tmp 23) (.tmp 26) rfl S1.out S4.out rfl w2.heap.size 1 rfl (.slice A5 m c5) rfl (World.cell?_alloc_mark _ _ _ _ _) S2.out j HJ.out h6 ?_; intro A6 c6 w3 k1 k2 k3 k4; have K1 := hidv_ k1; have K2 := hidv_ k2; clear k1 k2 k3 k4))
      have hq : Hid (RowF w3 (since [] w w3) (.slice A6 (j + 1) c6) (l.take (j + 1))) := hidv_ (by
        rw [HS.out]
        refine K1.out.sub fun k hk => ?_
        rcases mem_since.1 hk with h1 | h1
        · rcases mem_since.1 h1 with h2 | h2
          · cases h2
          · exact mem_since.2 (.inr ⟨h2.1, Nat.lt_of_lt_of_le (S4.out k h1) K2.out.size⟩)
        · exact mem_since.2 (.inr ⟨Nat.le_trans S3.out.size h1.1, h1.2⟩))
      have hq2 : Hid (Below w.heap.size w w3) := hidv_ (S3.out.grown K2.out S3.out.size (fun g hg => by
        rcases mem_since.1 (HLT.out g hg).2 with h1 | h1
        · cases h1
        · exact h1.1))
      go_roundw
      case rel => exact ⟨j + 1, A6, c6, by omega, by go_num, rfl, hq, hq2⟩
      case measure => simp [intOf]; omega
    · obtain rfl : j = r := by omega
      have d1 : decide ((j : Int) < (j : Int)) = false := decide_eq_false (by omega)
      have HT := hidv_ (show l.take j = l from List.take_of_length_le (by rw [HR.out]; omega))
      rw [HT.out] at HV
      go_wp2
      go_ret
      exact ⟨A', c', since [] w wr, rfl, HV.out, fun k hk => by rcases mem_since.1 hk with h1 | h1; exact absurd h1 (by simp); exact h1, HBW.out⟩
end Go.Proofs.Ytdkemjipbkanoaa
