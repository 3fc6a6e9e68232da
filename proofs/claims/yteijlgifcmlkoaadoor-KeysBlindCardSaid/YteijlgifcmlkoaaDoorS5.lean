/-
  Contracts: the message's end and its digest; sha2.Sum.
-/
import Derived.Test.YteijlgifcmlkoaaDoorS4
import Derived.Deep.RegionLaw
namespace Go.Proofs.YteijlgifcmlkoaaDoor
open Go.RowKit

/-- How many noughts stand behind the byte 80. -/
def gap (held : Nat) : Nat := (119 - held) % 64
/-- What stands behind a text's bytes. -/
def tail (held total : Nat) : List UInt8 := [128] ++ List.replicate (gap held) 0 ++ highB 8 (8 * total)

/-- The message at g, whatever its count. -/
def MsgAt (w : World) (g : Nat) (m : Msg) : Prop := ∃ x : Int, Bk w g 70 (m.cells x)

/-- Another take, behind what has gone before: told from the first world on. -/
theorem take_next (g : Nat) (m : Msg) (count : Nat) (hok : m.ok) (w0 w : World) (hx : w0.grownBy w (some g)) (hm : Bk w g 70 (m.cells count)) (ht : Tab w0) (hg0 : g ≠ 1) (hg1 : 1 < w0.heap.size)
    (A : Option Addr) (l : List UInt8) (n : Nat) (hn : l.length = n) (hr : RdN w g A l) (hcm : n ≤ 9223372036854775807) (hcount : count + n ≤ 18446744073709551615) :
    Calls Tryd.prog 38 #[.pointer (some ⟨g, 0, none⟩), .slice A n n] w fun e w' => e = .returned (.tuple #[]) ∧ Bk w' g 70 ((m.absorb l).cells ((count + n : Nat) : Int)) ∧ w0.grownBy w' (some g) :=
  (take_any g m count hok w hm (ht.grown hx hg0 hg1) hg0 (Nat.lt_of_lt_of_le hg1 hx.size) A l n n hn hr (Nat.le_refl _) hcm hcount).mono fun _ _ ⟨h1, h2, h3⟩ => ⟨h1, h2, hx.trans h3⟩

set_option maxRecDepth 100000 in
set_option maxHeartbeats 1000000 in
theorem end_any (g : Nat) (m : Msg) (count : Nat) (hok : m.ok) (w : World) (hm : Bk w g 70 (m.cells count)) (ht : Tab w) (hg0 : g ≠ 1) (hg1 : 1 < w.heap.size) (hcount : count ≤ 1152921504606846976) :
    Calls Tryd.prog 39 #[.pointer (some ⟨g, 0, none⟩)] w fun e w' => e = .returned (.tuple #[]) ∧ MsgAt w' g (m.absorb (tail m.held count)) ∧ w.grownBy w' (some g) := by
  have c73 : w.cell? ⟨g, 73, none⟩ = some (.int .u64 (count : Int)) := by rw [hm.cell]; exact msg_count _ _ rfl hok.blk
  have c72 : w.cell? ⟨g, 72, none⟩ = some (.int .i64 (m.held : Int)) := by rw [hm.cell]; exact msg_held _ _ rfl hok.blk
  have hheld := hok.held
  have hgl := hm.lt
  -- the first byte behind
  have k1 := take_any g m count hok (w.alloc (.cells (rowOf [128]) 5)) (hm.alloc _) (ht.grown (grown_alloc (World.grownBy.refl w (some g)) _) hg0 hg1) hg0 (by simp <;> omega)
    (some ⟨w.heap.size, 0, none⟩) [128] 1 1 rfl ((Blk8.new w [128]).rdn (by omega)) (by omega) (by omega) (by omega)
  have q1 : rowOf [128] = #[Value.int .u8 128] := rfl
  rw [q1] at k1
  have hgap : gap m.held ≤ 63 := by unfold gap; omega
  have egap : ((119 : Int) - (m.held : Int)) % 64 = (gap m.held : Int) := by unfold gap; omega
  have HG := hid_ (rfl : gap m.held = gap m.held)
  obtain ⟨z, hz⟩ : ∃ z, Hid (gap m.held = z) := ⟨_, rfl⟩
  rw [hz.out] at hgap egap
  have hmk := mk8 z (by omega)
  have d2 := fun W => putHigh_any (8 * count) 8 8 (by omega) (by omega) (by omega) (by omega) W
  have e8 : ((8 * count : Nat) : Int) = 8 * (count : Int) := by omega
  rw [e8] at d2
  clear e8
  have HOK := hid_ hok
  have HT := hid_ ht
  clear HG hok ht hm
  go_enter Tryd.func39, Tryd.ntmps39
  go_wp2_with (first
    | (go_at_call 38; ((with_reducible refine k1.mono ?_); rintro e w1 ⟨rfl, m1, g1⟩); have x1 := (grown_alloc (World.grownBy.refl w (some g)) (.cells #[.int .u8 128] 5)).trans g1; have k2 := take_next g (m.absorb [128]) (count + 1) (Msg.absorb_ok HOK.out _) w (w1.alloc (.cells (rowOf (List.replicate z 0)) 5)) (grown_alloc x1 _) (m1.alloc _) HT.out hg0 hg1 (some ⟨w1.heap.size, 0, none⟩) (List.replicate z 0) z (by simp) ((Blk8.new w1 _).rdn (by have := x1.size; omega)) (by omega) (by omega))
    | (go_at_call 38; ((with_reducible refine k2.mono ?_); rintro e w2 ⟨rfl, m2, g2⟩); have d3 := d2 w2)
    | (go_at_call 24; ((with_reducible refine d3.mono ?_); rintro e w3 ⟨rfl, b3, bb3⟩); have x3 := grown_of_below g2 bb3; have k3 := take_next g ((m.absorb [128]).absorb (List.replicate z 0)) (count + 1 + z) (Msg.absorb_ok (Msg.absorb_ok HOK.out _) _) w w3 x3 (m2.below bb3 m2.lt) HT.out hg0 hg1 (some ⟨w2.heap.size, 0, none⟩) (highB 8 (8 * count)) 8 (highB_len _ _) (b3.rdn (by have := g2.size; omega)) (by omega) (by omega))
    | (go_at_call 38; ((with_reducible refine k3.mono ?_); rintro e w4 ⟨rfl, m4, g4⟩)))
  go_end0
  refine ⟨rfl, ?_, g4⟩
  have ht : m.absorb (tail m.held count) = ((m.absorb [128]).absorb (List.replicate z 0)).absorb (highB 8 (8 * count)) := by
    unfold tail
    rw [hz.out, Msg.absorb_append, Msg.absorb_append]
  rw [ht]
  exact ⟨_, m4⟩

/-! ### The digest -/
def zbytes (n : Nat) : List UInt8 := List.replicate n 0
theorem zbytes_len (n : Nat) : (zbytes n).length = n := by simp [zbytes]
/-- The digest's bytes. -/
def digestOf (s : S8) : List UInt8 := (s.list.map fun x => highB 4 x.toNat).flatten
theorem flat4_len : ∀ (L : List (List UInt8)), (∀ x ∈ L, x.length = 4) → L.flatten.length = 4 * L.length
  | [], _ => rfl
  | x :: L, h => by
    rw [List.flatten_cons, List.length_append, h x (by simp), flat4_len L (fun y hy => h y (by simp [hy])), List.length_cons]
    omega
theorem flat4 : ∀ (L : List (List UInt8)) (k : Nat), (∀ x ∈ L, x.length = 4) → k < L.length → (L.flatten.drop (4 * k)).take 4 = L.getD k []
  | [], _, _, h => absurd h (by simp)
  | x :: L, 0, h, _ => by
    have hx := h x (by simp)
    rw [List.flatten_cons, Nat.mul_zero, List.drop_zero, ← hx, List.take_left]
    rfl
  | x :: L, k + 1, h, hk => by
    have hx := h x (by simp)
    rw [List.flatten_cons, show 4 * (k + 1) = x.length + 4 * k by omega, ← List.drop_drop, List.drop_left, flat4 L k (fun y hy => h y (by simp [hy])) (by simpa using hk)]
    rfl
theorem dig_four (s : S8) : ∀ x ∈ s.list.map (fun x => highB 4 x.toNat), x.length = 4 := by
  intro x hx
  rw [List.mem_map] at hx
  obtain ⟨y, _, rfl⟩ := hx
  exact highB_len _ _
theorem digestOf_len (s : S8) : (digestOf s).length = 32 := by
  unfold digestOf
  rw [flat4_len _ (dig_four s)]
  rfl
/-- The result as it lies behind k words. -/
def digPart (s : S8) (k : Nat) : List UInt8 := (digestOf s).take (4 * k) ++ zbytes (32 - 4 * k)
theorem digPart_len (s : S8) (k : Nat) (hk : k ≤ 8) : (digPart s k).length = 32 := by
  unfold digPart; rw [List.length_append, List.length_take, digestOf_len, zbytes_len]; omega
theorem dig_word (s : S8) (k : Nat) (hk : k < 8) : ((digestOf s).drop (4 * k)).take 4 = highB 4 (s.list.getD k 0).toNat := by
  unfold digestOf
  rw [flat4 _ k (dig_four s) (by simpa [S8.list] using hk)]
  match k, hk with
  | 0, _ | 1, _ | 2, _ | 3, _ | 4, _ | 5, _ | 6, _ | 7, _ => rfl
theorem laid_app (p z l : List UInt8) : laid (p ++ z) p.length l = p ++ l ++ z.drop l.length := by
  unfold laid
  rw [List.take_left, ← List.drop_drop, List.drop_left]
theorem digPart_laid (s : S8) (k : Nat) (hk : k < 8) : laid (digPart s k) (4 * k) (highB 4 (s.list.getD k 0).toNat) = digPart s (k + 1) := by
  have h1 : ((digestOf s).take (4 * k)).length = 4 * k := by rw [List.length_take, digestOf_len]; omega
  have h2 : (zbytes (32 - 4 * k)).drop 4 = zbytes (32 - 4 * (k + 1)) := by
    unfold zbytes
    rw [List.drop_replicate]
    congr 1
  have h3 := laid_app ((digestOf s).take (4 * k)) (zbytes (32 - 4 * k)) (highB 4 (s.list.getD k 0).toNat)
  rw [h1, highB_len, h2] at h3
  unfold digPart
  rw [h3, ← dig_word s k hk, ← List.take_add]
  rfl
theorem row_laid (out : List UInt8) (i : Nat) (l : List UInt8) : ((rowOf out).toList.take i ++ (rowOf l).toList ++ (rowOf out).toList.drop (i + (rowOf l).toList.length)).toArray = rowOf (laid out i l) := by
  apply Array.ext'
  simp [rowOf, laid, List.map_take, List.map_drop]

theorem z32 (W : World) : (zeroValue 23).run Tryd.prog W = .ok (.agg (rowOf (zbytes 32))) W := by kernel_rfl
theorem i32_ : (Tryd.prog.info? 23).map (·.size) = some 32 := by kernel_rfl
theorem bytes_one (l : List UInt8) : (rowOf l).all (·.oneCell') = true := by
  rw [Array.all_eq_true_iff_forall_mem]
  intro v hv
  simp [rowOf] at hv
  obtain ⟨x, _, rfl⟩ := hv
  rfl
theorem slice_out (g i : Nat) (z : Int) (hz : z = (i : Int)) (hi : i < 32) (W : World) :
    (Instr.sliceAt 23 (.pointer (some ⟨g, 0, none⟩)) (some (.int .i64 z)) none none).run Tryd.prog W = .ok (.slice (some ⟨g, i, none⟩) (32 - i) (32 - i)) W := by
  subst hz
  have he : Tryd.prog.elem 23 = 5 := by kernel_rfl
  have hn : Tryd.prog.arrayLen 23 = 32 := by kernel_rfl
  have ht : Tryd.prog.underlying 23 = some (.array (Tryd.prog.arrayLen 23) (Tryd.prog.elem 23)) := by rw [he, hn]; exact Tryd.underlying23
  rw [run_sliceAt_array_l W 23 ⟨g, 0, none⟩ ht .i64 i (by omega) (by rw [hn]; omega)]
  have hs : (sizeOf (Tryd.prog.elem 23)).run Tryd.prog W = .ok 1 W := by
    rw [he]
    obtain ⟨i, hi, hz, hsize, hby⟩ := info_parts info8
    simp [sizeOf, typeInfo, hi, hsize]
  rw [hs, hn]
  simp only [Result.andThen, slicedAt, Int.toNat_natCast, Nat.mul_one]
  rw [if_neg (by omega)]
  congr 3
  unfold Addr.add
  split
  · congr 1; omega
  · simp

set_option maxRecDepth 100000 in
set_option maxHeartbeats 1000000 in
theorem digest_any (g : Nat) (m : Msg) (hok : m.ok) (w : World) (hm : MsgAt w g m) :
    Calls Tryd.prog 40 #[.pointer (some ⟨g, 0, none⟩)] w fun e w' => e = .returned (.agg (rowOf (digestOf m.s))) ∧ Below w.heap.size w w' := by
  obtain ⟨cnt, hm⟩ := hm
  have hz := z32
  have hgl := hm.lt
  have hcw : ∀ j, j < (wordsRow m.s.list).size → ((w.alloc (.cells (rowOf (zbytes 32)) 23)).alloc (.cells (rowOf (zbytes 32)) 23)).cell? ⟨g, 0 + j, none⟩ = (wordsRow m.s.list)[j]? := fun j hj => by
    rw [wordsRow_size] at hj
    rw [((hm.alloc _).alloc _).cell, Nat.zero_add, wordsRow_at _ _ hj]
    exact msg_word _ _ _ j hj
  have HCW := hid_ hcw
  have e8 : (Tryd.prog.info? 58).map (·.size) = some (wordsRow m.s.list).size := by rw [wordsRow_size]; exact i8_
  have E8 := hid_ e8
  have HOK := hid_ hok
  have a0 : Bk ((w.alloc (.cells (rowOf (zbytes 32)) 23)).alloc (.cells (rowOf (zbytes 32)) 23)) w.heap.size 23 (rowOf (zbytes 32)) := (Bk.new w _ _).alloc _
  have a1 : Bk ((w.alloc (.cells (rowOf (zbytes 32)) 23)).alloc (.cells (rowOf (zbytes 32)) 23)) (w.heap.size + 1) 23 (rowOf (zbytes 32)) := by simpa using Bk.new (w.alloc (.cells (rowOf (zbytes 32)) 23)) 23 (rowOf (zbytes 32))
  have A0 := hid_ a0
  have A1 := hid_ a1
  have HB := hid_ (((Below.refl w.heap.size w).alloc (Nat.le_refl _) (.cells (rowOf (zbytes 32)) 23)).alloc (by simp) (.cells (rowOf (zbytes 32)) 23))
  clear hcw e8 hok a0 a1 hm hgl
  go_enter Tryd.func40, Tryd.ntmps40
  go_wp2_with (refine wpList_load_sub rfl 58 (.tmp 8) rfl g 0 rfl (wordsRow m.s.list) HCW.out _ Tryd.underlying58 rfl E8.out ?_)
  go_loopw [4, 5, 10] (fun _ _ i wr => ∃ k : Nat, k ≤ 8 ∧ i = .int .i64 k ∧ Bk wr w.heap.size 23 (rowOf (zbytes 32)) ∧ Bk wr (w.heap.size + 1) 23 (rowOf (digPart m.s k)) ∧ Below w.heap.size w wr) (fun _ _ i _ => 8 - (intOf i).toNat)
  case atStart => exact ⟨0, by omega, rfl, A0.out, by simpa [digPart] using A1.out, HB.out⟩
  case round =>
    obtain ⟨k, hk, rfl, b0, b1, bb⟩ := hrel
    have B0 := hid_ b0
    have B1 := hid_ b1
    have BB := hid_ bb
    clear b0 b1 bb A0 A1 HB HCW
    by_cases hlt : k < 8
    · have hix : ∀ V : World, (Instr.index 58 (.agg (wordsRow m.s.list)) (.int .i64 (k : Int))).run Tryd.prog V = .ok (.int .u32 (m.s.list.getD k 0)) V := fun V => idx8 m.s k hlt V
      have hxo := getD_ok (S8.list_ok HOK.out.s) k
      have hdl := digPart_laid m.s k hlt
      obtain ⟨X, hX⟩ := Int.eq_ofNat_of_zero_le hxo.1
      have hX1 := hxo.2
      rw [hX] at hix hdl hX1
      rw [Int.toNat_natCast] at hdl
      have HDL := hid_ hdl
      have hso := slice_out (w.heap.size + 1) (4 * k) (4 * (k : Int)) (by omega) (by omega)
      have cp := fun V => putHigh_any X 4 4 (by omega) (by omega) (by omega) (by omega) V
      have hmin : 4 = Nat.min 4 (32 - 4 * k) := (Nat.min_eq_left (by omega)).symm
      have HMIN := hid_ hmin
      have hfit : 4 * k + 4 ≤ (rowOf (digPart m.s k)).size := by rw [rowOf_size, digPart_len _ _ hk]; omega
      have HFIT := hid_ hfit
      have t0 : (0 : Int) ≤ (k : Int) := by omega
      have hm4 : IntKind.i64.wrap (4 * (k : Int)) = 4 * (k : Int) := IntWalk.i64_in _ (by omega)
      have hw64 : IntKind.u64.wrap (X : Int) = (X : Int) := IntWalk.u64_in _ (by omega)
      clear hxo hdl hmin hfit hX
      go_wp2
      go_region_law (first
        | (refine step_copy8 rfl (.tmp 16) (.tmp 19) rfl (w.heap.size + 1) (4 * k) (32 - 4 * k) (32 - 4 * k) rfl (some ⟨wr.heap.size, 0, none⟩) 4 4 rfl (highB 4 X) 4 (highB_len _ _) (by omega) HMIN.out (w.heap.size + 1) rd5 23 (rowOf (digPart m.s k)) k5 HFIT.out ?_; intro w6 k6 g6 s6; rw [row_laid, HDL.out] at k6)
        | (go_simp; go_at_call 24; ((with_reducible refine (cp _).mono ?_); rintro e w5 ⟨rfl, b5, bb5⟩); have k5 := (B1.out.drew).below bb5 B1.out.lt; have rd5 := b5.rdn (g := w.heap.size + 1) (by have := B1.out.lt; show wr.heap.size ≠ _; omega)))
      all_goals
        have q0 := ((B0.out.drew).below bb5 B0.out.lt).grown g6 (fun e => by injection e with e; omega)
        have hl5 := bb5.size
        have qb := ((BB.out.drew).trans (bb5.mono BB.out.size)).grown g6 (by have := BB.out.size; show _ ≤ w5.heap.size; exact Nat.le_trans this hl5) (fun k hk => by injection hk with hk; omega)
        go_wp2
        go_roundw
        case rel => exact ⟨k + 1, by omega, by go_num, q0, k6, qb⟩
        case measure => simp [intOf]; omega
    · obtain rfl : k = 8 := by omega
      have hp8 : digPart m.s 8 = digestOf m.s := by
        unfold digPart
        rw [List.take_of_length_le (by rw [digestOf_len]; omega)]
        simp [zbytes]
      have e32 : (Tryd.prog.info? 23).map (·.size) = some (rowOf (digestOf m.s)).size := by rw [rowOf_size, digestOf_len]; exact i32_
      have q32 : (rowOf (zbytes 32)).size = (rowOf (digestOf m.s)).size := by rw [rowOf_size, rowOf_size, digestOf_len, zbytes_len]
      have E32 := hid_ e32
      have Q32 := hid_ q32
      clear e32 q32
      have B1' := B1.out
      rw [hp8] at B1'
      go_wp2_with (first
        | (refine wpList_load_row rfl 23 _ rfl (w.heap.size + 1) rfl 23 (rowOf (digestOf m.s)) (0, 0) _ B1' Tryd.underlying23 rfl E32.out ?_)
        | (refine wpList_put_row rfl 23 _ _ rfl w.heap.size (rowOf (digestOf m.s)) rfl rfl 23 (rowOf (zbytes 32)) B0.out E32.out Q32.out (bytes_one _) ?_; intro W9 k9 g9 s9))
      exact bodyPost_ret (results_cell_row Tryd.results40 _ _ w.heap.size 23 _ (0, 0) _ rfl k9 Tryd.underlying23 rfl E32.out) rfl ⟨rfl, BB.out.grown g9 (by have := B0.out.lt; omega) (fun k hk => by injection hk with hk; omega)⟩

/-! ### sha2.Sum -/
/-- A slice of slices of bytes, that reads as ls; all of it below block B. -/
def Parts (w : World) (B : Nat) (A : Option Addr) (ls : List (List UInt8)) : Prop :=
  0 < ls.length → ∃ b off, A = some ⟨b, off, none⟩ ∧ b < B ∧ ∀ j, j < ls.length → ∃ Aj cj, w.cell? ⟨b, off + j, none⟩ = some (.slice Aj (ls.getD j []).length cj) ∧ Rd w B Aj (ls.getD j []) ∧ (ls.getD j []).length ≤ cj ∧ cj ≤ 9223372036854775807
def startS : S8 := ⟨1779033703, 3144134277, 1013904242, 2773480762, 1359893119, 2600822924, 528734635, 1541459225⟩
theorem startS_list : startS.list = startH := rfl
theorem startS_ok : startS.ok := by
  constructor <;> (constructor <;> decide)
def start : Msg := ⟨startS, zbytes 64, 0⟩
theorem start_ok : start.ok := ⟨startS_ok, zbytes_len 64, by show 0 < 64; omega⟩
theorem absorb_held : ∀ (l : List UInt8) (m : Msg), m.held < 64 → (m.absorb l).held = (m.held + l.length) % 64
  | [], m, h => by show m.held = _; simp; omega
  | c :: l, m, h => by
    show ((m.push c).absorb l).held = _
    have hp : (m.push c).held = (m.held + 1) % 64 := by
      unfold Msg.push
      split
      · show 0 = _; omega
      · show m.held + 1 = _; omega
    rw [absorb_held l _ (by rw [hp]; omega), hp, List.length_cons]
    omega
/-- SHA-256 of a text. -/
def sha (l : List UInt8) : List UInt8 := digestOf (start.absorb (l ++ tail (l.length % 64) l.length)).s
theorem sha_len (l : List UInt8) : (sha l).length = 32 := digestOf_len _

theorem zmsg (W : World) : (zeroValue 70).run Tryd.prog W = .ok (.agg (msgCells (zeros 8) (zbytes 64) 0 0)) W := by kernel_rfl
theorem imsg_ : (Tryd.prog.info? 70).map (·.size) = some 74 := by kernel_rfl
theorem msg_one (ws : List Int) (blk : List UInt8) (h c : Int) : (msgCells ws blk h c).all (·.oneCell') = true := by
  unfold msgCells
  rw [Array.all_append, Array.all_append, words_one, bytes_one]
  simp [Value.oneCell']

set_option maxRecDepth 100000 in
set_option maxHeartbeats 1000000 in
theorem sum_any (A : Option Addr) (n c : Nat) (ls : List (List UInt8)) (w : World) (hn : ls.length = n) (hp : Parts w w.heap.size A ls) (hnm : n ≤ 9223372036854775807) (htot : ls.flatten.length ≤ 1152921504606846976) (ht : Tab w) (hg1 : 1 < w.heap.size) :
    Calls Tryd.prog 28 #[.slice A n c] w fun e w' => e = .returned (.agg (rowOf (sha ls.flatten))) ∧ Below w.heap.size w w' := by
  have hz := z32
  have hzm := zmsg
  have c0 := fun W => startWords_any W
  have im : (Tryd.prog.info? 70).map (·.size) = some (msgCells startH (zbytes 64) 0 0).size := by rw [msg_size _ _ rfl (zbytes_len 64)]; exact imsg_
  have qm : (msgCells (zeros 8) (zbytes 64) 0 0).size = (msgCells startH (zbytes 64) 0 0).size := by rw [msg_size _ _ rfl (zbytes_len 64), msg_size _ _ rfl (zbytes_len 64)]
  have IM := hid_ im
  have QM := hid_ qm
  have HN := hid_ hn
  have HP := hid_ hp
  have HT := hid_ ht
  clear im qm hn hp ht
  go_enter Tryd.func28, Tryd.ntmps28
  go_wp2_with (first
    | (go_at_call 37; ((with_reducible refine (c0 _).mono ?_); rintro e w1 ⟨rfl, hb1⟩))
    | (refine wpList_built rfl 70 _ rfl (msgCells startH (zbytes 64) 0 0) (by kernel_rfl) ?_)
    | (refine wpList_put_row rfl 70 (.tmp 3) (.tmp 7) rfl w1.heap.size (msgCells startH (zbytes 64) 0 0) rfl rfl 70 (msgCells (zeros 8) (zbytes 64) 0 0) (Bk.new w1 _ _) IM.out QM.out (msg_one _ _ _ _) ?_; intro w2 m2 g2 s2))
  have l1 := hb1.size
  have r1 : Bk w1 w.heap.size 23 (rowOf (zbytes 32)) := (Bk.new w 23 (rowOf (zbytes 32))).below hb1 (by simp)
  have r2 : Bk w2 w.heap.size 23 (rowOf (zbytes 32)) := (r1.alloc _).grown g2 (fun e => by injection e with e; have := r1.lt; omega)
  have hgw : w.heap.size < w1.heap.size := r1.lt
  have bw2 : Below w.heap.size w w2 := ((((Below.refl w.heap.size w).alloc (Nat.le_refl _) (.cells (rowOf (zbytes 32)) 23)).trans (hb1.mono (by simp))).alloc (by omega) (.cells (msgCells (zeros 8) (zbytes 64) 0 0) 70)).grown g2 (by simp; omega) (fun k hk => by injection hk with hk; omega)
  obtain ⟨g, hg⟩ : ∃ g, Hid (w1.heap.size = g) := ⟨_, rfl⟩
  rw [hg.out] at m2 g2 hgw ⊢
  have hg0 : g ≠ 1 := by omega
  have M2 := hid_ m2
  have R2 := hid_ r2
  have BW2 := hid_ bw2
  clear m2 r2 bw2 r1 hb1 g2 s2 l1 c0
  go_loopw [5, 10] (fun _ i wr => ∃ k : Nat, k ≤ n ∧ i = .int .i64 k ∧ Bk wr g 70 ((start.absorb (ls.take k).flatten).cells (((ls.take k).flatten.length : Nat) : Int)) ∧ Bk wr w.heap.size 23 (rowOf (zbytes 32)) ∧ Below w.heap.size w wr) (fun _ i _ => n - (intOf i).toNat)
  case atStart => exact ⟨0, by omega, rfl, M2.out, R2.out, BW2.out⟩
  case round =>
    obtain ⟨k, hk, rfl, mk, rk, bk⟩ := hrel
    have MK := hid_ mk
    have RK := hid_ rk
    have BK := hid_ bk
    clear mk rk bk M2 R2 BW2
    have hTk : Tab wr := fun t h => by
      rw [← HT.out t h]
      exact BK.out.cell (p := ⟨_, t, none⟩) hg1
    have hg1k : 1 < wr.heap.size := Nat.lt_of_lt_of_le hg1 BK.out.size
    have hok := Msg.absorb_ok start_ok (ls.take k).flatten
    by_cases hlt : k < n
    · obtain ⟨b, off, hA, hbB, hcell⟩ := HP.out (by rw [HN.out]; omega)
      subst hA
      obtain ⟨Ak, ck, hck, hrk, hlk, hcm⟩ := hcell k (by rw [HN.out]; exact hlt)
      have hck' : wr.cell? ⟨b, off + k, none⟩ = some (.slice Ak (ls.getD k []).length ck) := (BK.out.cell (p := ⟨b, off + k, none⟩) hbB).trans hck
      have htk : (ls.take (k + 1)).flatten = (ls.take k).flatten ++ ls.getD k [] := by
        rw [List.take_succ_eq_append_getElem (by rw [HN.out]; exact hlt), List.flatten_append]
        simp [List.getD, HN.out, hlt]
      have hsub : (ls.take (k + 1)).flatten.length ≤ ls.flatten.length := by
        have h := congrArg (fun l => l.flatten.length) (List.take_append_drop (k + 1) ls)
        simp only [List.flatten_append, List.length_append] at h
        omega
      have htl : (ls.take (k + 1)).flatten.length = (ls.take k).flatten.length + (ls.getD k []).length := by rw [htk, List.length_append]
      have ct := take_any g (start.absorb (ls.take k).flatten) (ls.take k).flatten.length hok wr MK.out hTk hg0 hg1k Ak (ls.getD k []) (ls.getD k []).length ck rfl ((hrk.below BK.out).rdn (by omega) (Nat.le_of_lt MK.out.lt)) hlk hcm (by omega)
      rw [← htl, ← Msg.absorb_append, ← htk] at ct
      clear hTk hg1k hok htk hsub htl hrk hck hcell
      obtain ⟨nk, hnk⟩ : ∃ nk, Hid ((ls.getD k []).length = nk) := ⟨_, rfl⟩
      rw [hnk.out] at hck' ct hlk
      go_wp2_with (go_at_call 38; ((with_reducible refine ct.mono ?_); rintro e w5 ⟨rfl, m5, g5⟩))
      go_roundw
      case rel => exact ⟨k + 1, by omega, by go_num, m5, RK.out.grown g5 (fun e => by injection e with e; omega), BK.out.grown g5 BK.out.size (fun j hj => by injection hj with hj; omega)⟩
      case measure => simp [intOf]; omega
    · obtain rfl : k = n := by omega
      have hfl : ls.take k = ls := List.take_of_length_le (by rw [HN.out]; omega)
      have MKo := MK.out
      rw [hfl] at MKo hok
      have ce := end_any g (start.absorb ls.flatten) ls.flatten.length hok wr MKo hTk hg0 hg1k htot
      have hheld := absorb_held ls.flatten start (by show 0 < 64; omega)
      have hh0 : start.held = 0 := rfl
      rw [hh0, Nat.zero_add] at hheld
      rw [hheld, ← Msg.absorb_append] at ce
      have hdg : digestOf (start.absorb (ls.flatten ++ tail (ls.flatten.length % 64) ls.flatten.length)).s = sha ls.flatten := rfl
      have HDG := hid_ hdg
      have hok2 := Msg.absorb_ok start_ok (ls.flatten ++ tail (ls.flatten.length % 64) ls.flatten.length)
      have cd := fun W h => digest_any g (start.absorb (ls.flatten ++ tail (ls.flatten.length % 64) ls.flatten.length)) hok2 W h
      rw [hdg] at cd
      generalize start.absorb (ls.flatten ++ tail (ls.flatten.length % 64) ls.flatten.length) = mz at ce cd hok2
      have e32 : (Tryd.prog.info? 23).map (·.size) = some (rowOf (sha ls.flatten)).size := by rw [rowOf_size, sha_len]; exact i32_
      have q32 : (rowOf (zbytes 32)).size = (rowOf (sha ls.flatten)).size := by rw [rowOf_size, rowOf_size, sha_len, zbytes_len]
      have E32 := hid_ e32
      have Q32 := hid_ q32
      clear e32 q32 hdg HDG hheld hh0 hok MKo hTk hg1k hfl hok2
      obtain ⟨dg, hdg⟩ : ∃ dg, Hid (sha ls.flatten = dg) := ⟨_, rfl⟩
      rw [hdg.out] at cd E32 Q32
      go_wp2_with (first
        | (go_at_call 39; ((with_reducible refine ce.mono ?_); rintro e w6 ⟨rfl, m6, g6⟩))
        | (go_at_call 40; ((with_reducible refine (cd _ m6).mono ?_); rintro e w7 ⟨rfl, b7⟩); have r7 := (RK.out.grown g6 (fun e => by injection e with e; omega)).below b7 (Nat.lt_of_lt_of_le RK.out.lt g6.size))
        | (refine wpList_put_row rfl 23 _ _ rfl w.heap.size (rowOf dg) rfl rfl 23 (rowOf (zbytes 32)) r7 E32.out Q32.out (bytes_one _) ?_; intro W9 k9 g9 s9))
      have f6 := BK.out.grown g6 BK.out.size (fun j hj => by injection hj with hj; omega)
      have f7 := f6.trans (b7.mono f6.size)
      exact bodyPost_ret (results_cell_row Tryd.results28 _ _ w.heap.size 23 _ (0, 0) _ rfl k9 Tryd.underlying23 rfl E32.out) rfl ⟨by rw [hdg.out], f7.grown g9 f7.size (fun k hk => by injection hk with hk; omega)⟩
end Go.Proofs.YteijlgifcmlkoaaDoor
