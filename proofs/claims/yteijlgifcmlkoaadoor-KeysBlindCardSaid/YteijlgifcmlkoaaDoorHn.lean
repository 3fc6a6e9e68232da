/-
  keys.Blind and keys.Seal; the document's answers to them.
-/
import Derived.Test.YteijlgifcmlkoaaDoorHm
namespace Go.Proofs.YteijlgifcmlkoaaDoor
open Go.ChangeShapes Go.WideShapes Go.ChangeAt Go.RowKit
set_option linter.unusedVariables false
set_option linter.unusedSimpArgs false

section
variable (w : World) (g o n : Nat)
theorem freeze_os : (w.freeze ⟨g, o, none⟩ n).os = w.os := by unfold World.freeze; split <;> rfl
theorem freeze_tape : (w.freeze ⟨g, o, none⟩ n).tape = w.tape := by unfold World.freeze; split <;> rfl
theorem freeze_output : (w.freeze ⟨g, o, none⟩ n).output = w.output := by unfold World.freeze; split <;> rfl
theorem freeze_size : (w.freeze ⟨g, o, none⟩ n).heap.size = w.heap.size := by unfold World.freeze; split <;> simp
theorem freeze_other (k : Nat) (h : k ≠ g) : (w.freeze ⟨g, o, none⟩ n).heap[k]? = w.heap[k]? := by
  unfold World.freeze
  split
  · rfl
  · simp only [Array.getElem?_modify]
    rw [if_neg (by omega)]
theorem freeze_cell (p : Addr) : (w.freeze ⟨g, o, none⟩ n).cell? p = w.cell? p := by
  by_cases hn : n = 0
  · simp [World.freeze, hn]
  · by_cases h : p.block = g
    · unfold World.freeze World.cell?
      rw [if_neg hn]
      simp only [Array.getElem?_modify, h, if_true]
      cases w.heap[g]? with
      | none => rfl
      | some b => cases b <;> rfl
    · unfold World.cell?
      rw [freeze_other w g o n p.block h]
theorem freeze_shape (k : Nat) : (w.freeze ⟨g, o, none⟩ n).shape? k = w.shape? k := by
  by_cases hn : n = 0
  · simp [World.freeze, hn]
  · by_cases h : k = g
    · unfold World.freeze World.shape?
      rw [if_neg hn]
      simp only [Array.getElem?_modify, h, if_true]
      cases w.heap[g]? with
      | none => rfl
      | some b => cases b <;> rfl
    · unfold World.shape?
      rw [freeze_other w g o n k h]
end
theorem Below.freeze_ {B g : Nat} {a w : World} (h : Below B a w) (hg : B ≤ g) (o n : Nat) : Below B a (w.freeze ⟨g, o, none⟩ n) :=
  h.trans ⟨freeze_os _ _ _ _, freeze_tape _ _ _ _, freeze_output _ _ _ _, by rw [freeze_size]; exact Nat.le_refl _, fun k hk => freeze_other _ _ _ _ _ (by omega)⟩
theorem Bk.freeze_ {w : World} {k g : Nat} {ty : TypeId} {cs : Array Value} (h : Bk w k ty cs) (hg : k ≠ g) (o n : Nat) : Bk (w.freeze ⟨g, o, none⟩ n) k ty cs := (freeze_other w g o n k hg).trans h
/-- '[]byte("..")' wherever the literal's block lies. -/
theorem run_convert_mark (W : World) (g n c sz : Nat) (hsh : W.shape? g = some (5, sz)) :
    (convert 22 22 (.slice (some ⟨g, 0, none⟩) n c)).run Tryd.prog W = .ok (.slice (some ⟨g, 0, none⟩) n c) (W.freeze ⟨g, sz, none⟩ 1) := by
  simp [convert, run_underlying Tryd.underlying22, run_underlying Tryd.underlying5, markStringish, hsh]

/-- All cells are kept but those of one block; the forms of the blocks, too. -/
structure Kp (rc : Nat) (W W' : World) : Prop where
  size : W.heap.size ≤ W'.heap.size
  cell : ∀ p v, p.block ≠ rc → W.cell? p = some v → W'.cell? p = some v
  shape : ∀ g s, g ≠ rc → W.shape? g = some s → W'.shape? g = some s
theorem Kp.refl (rc : Nat) (W : World) : Kp rc W W := ⟨Nat.le_refl _, fun _ _ _ h => h, fun _ _ _ h => h⟩
theorem cell_lt {W : World} {p : Addr} {v : Value} (h : W.cell? p = some v) : p.block < W.heap.size := by
  rcases Nat.lt_or_ge p.block W.heap.size with h1 | h1
  · exact h1
  · simp [World.cell?, Array.getElem?_eq_none h1] at h
theorem shape_lt {W : World} {g : Nat} {s : TypeId × Nat} (h : W.shape? g = some s) : g < W.heap.size := by
  rcases Nat.lt_or_ge g W.heap.size with h1 | h1
  · exact h1
  · simp [World.shape?, Array.getElem?_eq_none h1] at h
theorem shape_block {W W' : World} {g : Nat} (h : W'.heap[g]? = W.heap[g]?) : W'.shape? g = W.shape? g := by unfold World.shape?; rw [h]
theorem Kp.of_below {rc : Nat} {W W' : World} (h : Below W.heap.size W W') : Kp rc W W' :=
  ⟨h.size, fun p v _ hc => (h.cell (cell_lt hc)).trans hc, fun g s _ hs => (shape_block (h.block g (shape_lt hs))).trans hs⟩
theorem Kp.freeze (rc : Nat) (W : World) (g o n : Nat) : Kp rc W (W.freeze ⟨g, o, none⟩ n) :=
  ⟨by rw [freeze_size]; exact Nat.le_refl _, fun p v _ hc => by rw [freeze_cell]; exact hc, fun k s _ hs => by rw [freeze_shape]; exact hs⟩
theorem Kp.of_grown {rc : Nat} {W W' : World} (h : W.grownBy W' (some rc)) : Kp rc W W' :=
  ⟨h.size, fun p v hp hc => (World.cell?_of_block (h.block p.block (cell_lt hc) (fun e => hp (by injection e)))).trans hc, fun g s hg hs => (shape_block (h.block g (shape_lt hs) (fun e => hg (by injection e)))).trans hs⟩
theorem RdF.kp {W W' : World} {rc : Nat} {A : Option Addr} {l : List UInt8} (h : RdF W [rc] A l) (k : Kp rc W W') : RdF W' [rc] A l := fun hn => by
  obtain ⟨b, off, e, hb, hlt, hc⟩ := h hn
  exact ⟨b, off, e, hb, Nat.lt_of_lt_of_le hlt k.size, fun j hj => k.cell _ _ (by simpa using hb) (hc j hj)⟩
theorem RdF.of_block {W : World} {g rc : Nat} {l : List UInt8} (h : Blk8 W g l) (hg : g ≠ rc) : RdF W [rc] (some ⟨g, 0, none⟩) l := fun _ =>
  ⟨g, 0, rfl, by simpa using hg, h.lt, fun j hj => by rw [Nat.zero_add]; exact h.cell j hj⟩
theorem RdF.of_own {W : World} {B m c rc : Nat} {A : Option Addr} {y : List UInt8} (hO : Own8 W B (.slice A m c) y) (h : rc < B) : RdF W [rc] A y := fun hn => by
  obtain ⟨_, _, _, _, hbd⟩ := hO.form
  obtain ⟨b, off, e, hlt, hc⟩ := hO.rd.1 hn
  refine ⟨b, off, e, fun hm => ?_, hlt, hc⟩
  have h1 := (hbd b (by rw [e]; rfl)).1
  have h2 : b = rc := by simpa using hm
  omega

/-- What 'seal' is. -/
def sealU : List UInt8 := [115, 101, 97, 108]
def sealUse (k : Nat) : List UInt8 := sealU ++ highB 8 k
def blindU : List UInt8 := [98, 108, 105, 110, 100]
def sealK (m : List UInt8) (k : Nat) : List UInt8 := expandB m (sealUse k) 32
def blindK (m name : List UInt8) : List UInt8 := hmacB (expandB m blindU 32) name
theorem sealK_len (m : List UInt8) (k : Nat) : (sealK m k).length = 32 := expandB_len _ _ _ (by omega)
theorem blindK_len (m name : List UInt8) : (blindK m name).length = 32 := hmacB_len _ _
theorem sealUse_len (k : Nat) : (sealUse k).length = 12 := by rw [sealUse, List.length_append, highB_len]; rfl

/-- What each operation of Seal's last line leaves. -/
def KsR (rc : Nat) (M u1 u2 use L : List UInt8) (z : Int) : Nat → Value → World → Prop
  | 0, v, _ => v = .agg (rowOf M)
  | 1, v, W => ∃ g, v = .slice (some ⟨g, 0, none⟩) 4 4 ∧ rc < g ∧ RdF W [rc] (some ⟨g, 0, none⟩) u1 ∧ W.shape? g = some (5, 4)
  | 2, v, W => ∃ g, v = .slice (some ⟨g, 0, none⟩) 4 4 ∧ RdF W [rc] (some ⟨g, 0, none⟩) u1
  | 3, v, _ => v = .int .i64 z
  | 4, v, _ => v = .int .u64 z
  | 5, v, W => ∃ g, v = .slice (some ⟨g, 0, none⟩) 8 8 ∧ RdF W [rc] (some ⟨g, 0, none⟩) u2
  | 6, v, W => ∃ q g1 g2, v = .slice (some ⟨q, 0, none⟩) 2 2 ∧ q ≠ rc ∧ q < W.heap.size ∧ W.cell? ⟨q, 0, none⟩ = some (.slice (some ⟨g1, 0, none⟩) 4 4) ∧ W.cell? ⟨q, 1, none⟩ = some (.slice (some ⟨g2, 0, none⟩) 8 8) ∧ RdF W [rc] (some ⟨g1, 0, none⟩) u1 ∧ RdF W [rc] (some ⟨g2, 0, none⟩) u2
  | 7, v, W => ∃ A c, v = .slice A 12 c ∧ RdF W [rc] A use ∧ 12 ≤ c ∧ c ≤ 9223372036854775807
  | 8, v, _ => v = .tuple #[.agg (rowOf L), .int .i64 0]
  | 9, v, _ => v = .agg (rowOf L)
  | 10, v, _ => v = .int .i64 0
  | 12, v, _ => v = .int .i64 0
  | _, _, _ => True
theorem KsR.stable {rc : Nat} {M u1 u2 use L : List UInt8} {z : Int} {W W' : World} (hT : Kp rc W W') : ∀ (j : Nat) (v : Value), KsR rc M u1 u2 use L z j v W → KsR rc M u1 u2 use L z j v W'
  | 0, _, h => h
  | 1, _, h => by
    obtain ⟨g, h1, h2, h3, h4⟩ := h
    exact ⟨g, h1, h2, h3.kp hT, hT.shape g _ (by omega) h4⟩
  | 2, _, h => by
    obtain ⟨g, h1, h2⟩ := h
    exact ⟨g, h1, h2.kp hT⟩
  | 3, _, h => h
  | 4, _, h => h
  | 5, _, h => by
    obtain ⟨g, h1, h2⟩ := h
    exact ⟨g, h1, h2.kp hT⟩
  | 6, _, h => by
    obtain ⟨q, g1, g2, h1, h2, h3, h4, h5, h6, h7⟩ := h
    exact ⟨q, g1, g2, h1, h2, Nat.lt_of_lt_of_le h3 hT.size, hT.cell _ _ h2 h4, hT.cell _ _ h2 h5, h6.kp hT, h7.kp hT⟩
  | 7, _, h => by
    obtain ⟨A, c, h1, h2, h3⟩ := h
    exact ⟨A, c, h1, h2.kp hT, h3⟩
  | 8, _, h => h
  | 9, _, h => h
  | 10, _, h => h
  | 11, _, _ => trivial
  | 12, _, h => h
  | _ + 13, _, _ => trivial
/-- The worlds of that line. -/
structure KsC (w : World) (r : Nat) (M : List UInt8) (W : World) : Prop where
  below : Below r w W
  m : Bk W r 23 (rowOf M)
  lt : r + 1 < W.heap.size
theorem KsC.keep {w : World} {r : Nat} {M : List UInt8} {W W' : World} (h : KsC w r M W) (hb : Below W.heap.size W W') : KsC w r M W' :=
  ⟨h.below.trans (hb.mono (by have := h.lt; omega)), h.m.below hb h.m.lt, Nat.lt_of_lt_of_le h.lt hb.size⟩
theorem KsC.freeze {w : World} {r : Nat} {M : List UInt8} {W : World} (h : KsC w r M W) (g o n : Nat) (hg : r < g) : KsC w r M (W.freeze ⟨g, o, none⟩ n) :=
  ⟨Below.freeze_ h.below (by omega) o n, Bk.freeze_ h.m (by omega) o n, by rw [freeze_size]; exact h.lt⟩
/-- The result, ahead of the store and behind it. -/
def KsJ (rc : Nat) (L : List UInt8) (D : Nat → Bool) (W : World) : Prop := (D 11 = false → Bk W rc 23 (rowOf (zbytes 32))) ∧ (D 11 = true → Bk W rc 23 (rowOf L))
theorem KsJ.same {rc : Nat} {L : List UInt8} {D : Nat → Bool} {W W' : World} (h : KsJ rc L D W) (hb : Below W.heap.size W W') (i : Nat) (h5 : i ≠ 11) : KsJ rc L (fun j => decide (j = i) || D j) W' := by
  have a5 := orf_ne (L := D) (i := i) (fun e : 11 = i => h5 e.symm)
  unfold KsJ
  simp only [a5]
  exact ⟨fun e => (h.1 e).below hb (h.1 e).lt, fun e => (h.2 e).below hb (h.2 e).lt⟩
theorem KsJ.freeze {rc : Nat} {L : List UInt8} {D : Nat → Bool} {W : World} (h : KsJ rc L D W) (g o n : Nat) (hg : rc ≠ g) (i : Nat) (h5 : i ≠ 11) : KsJ rc L (fun j => decide (j = i) || D j) (W.freeze ⟨g, o, none⟩ n) := by
  have a5 := orf_ne (L := D) (i := i) (fun e : 11 = i => h5 e.symm)
  unfold KsJ
  simp only [a5]
  exact ⟨fun e => Bk.freeze_ (h.1 e) hg o n, fun e => Bk.freeze_ (h.2 e) hg o n⟩

theorem kseal_no1 (w : World) (m : List UInt8) (z : Int) (h : z < 1) :
    Calls Tryd.prog 15 #[.agg (rowOf m), .int .i64 z] w fun e w' => e = .returned (.tuple #[.agg (rowOf (zbytes 32)), .int .i64 1]) ∧ Below w.heap.size w w' := by
  have hz := z32
  have BK := hidn_ (Bk.new (w.alloc (.cells (rowOf m) 23)) 23 (rowOf (zbytes 32)))
  have e1 : (w.alloc (.cells (rowOf m) 23)).heap.size = w.heap.size + 1 := by simp
  have I := hidn_ (i32r (zbytes 32) (zbytes_len 32))
  have HB := hidn_ (((Below.refl w.heap.size w).alloc (Nat.le_refl _) (.cells (rowOf m) 23)).alloc (by omega) (.cells (rowOf (zbytes 32)) 23))
  rw [e1] at BK
  have d1 : decide (z < 1) = true := decide_eq_true h
  clear h
  generalize rowOf m = M at *
  go_enter Tryd.func15, Tryd.ntmps15
  go_wp2_with (first
    | (refine wpList_built rfl 23 _ rfl (rowOf (zbytes 32)) (by kernel_rfl) ?_)
    | (refine wpList_put_row rfl 23 _ _ rfl (w.heap.size + 1) (rowOf (zbytes 32)) rfl rfl 23 (rowOf (zbytes 32)) BK.out I.out rfl (bytes_one _) ?_; intro W9 k9 g9 s9))
  exact bodyPost_ret (results_cell_slot Tryd.results15 _ _ (w.heap.size + 1) rfl rfl (run_loadVar_row _ _ _ _ _ (0, 0) _ k9 Tryd.underlying23 rfl I.out)) rfl ⟨rfl, HB.out.grown g9 HB.out.size (fun k hk => by injection hk with hk; omega)⟩
theorem kseal_no2 (w : World) (m : List UInt8) (z : Int) (h : 1 ≤ z) (h2 : 1048576 < z) :
    Calls Tryd.prog 15 #[.agg (rowOf m), .int .i64 z] w fun e w' => e = .returned (.tuple #[.agg (rowOf (zbytes 32)), .int .i64 1]) ∧ Below w.heap.size w w' := by
  have hz := z32
  have BK := hidn_ (Bk.new (w.alloc (.cells (rowOf m) 23)) 23 (rowOf (zbytes 32)))
  have e1 : (w.alloc (.cells (rowOf m) 23)).heap.size = w.heap.size + 1 := by simp
  have I := hidn_ (i32r (zbytes 32) (zbytes_len 32))
  have HB := hidn_ (((Below.refl w.heap.size w).alloc (Nat.le_refl _) (.cells (rowOf m) 23)).alloc (by omega) (.cells (rowOf (zbytes 32)) 23))
  rw [e1] at BK
  have d1 : decide (z < 1) = false := decide_eq_false (by omega)
  have d2 : decide (1048576 < z) = true := decide_eq_true h2
  clear h h2
  generalize rowOf m = M at *
  go_enter Tryd.func15, Tryd.ntmps15
  go_wp2_with (first
    | (refine wpList_built rfl 23 _ rfl (rowOf (zbytes 32)) (by kernel_rfl) ?_)
    | (refine wpList_put_row rfl 23 _ _ rfl (w.heap.size + 1) (rowOf (zbytes 32)) rfl rfl 23 (rowOf (zbytes 32)) BK.out I.out rfl (bytes_one _) ?_; intro W9 k9 g9 s9))
  exact bodyPost_ret (results_cell_slot Tryd.results15 _ _ (w.heap.size + 1) rfl rfl (run_loadVar_row _ _ _ _ _ (0, 0) _ k9 Tryd.underlying23 rfl I.out)) rfl ⟨rfl, HB.out.grown g9 HB.out.size (fun k hk => by injection hk with hk; omega)⟩
set_option maxRecDepth 100000 in
set_option maxHeartbeats 4000000 in
theorem kseal_yes (w : World) (M : List UInt8) (hm : M.length = 32) (k : Nat) (h1 : 1 ≤ k) (h2 : k ≤ 1048576) (ht : Tab w) (hg1 : 1 < w.heap.size) :
    Calls Tryd.prog 15 #[.agg (rowOf M), .int .i64 (k : Int)] w fun e w' => e = .returned (.tuple #[.agg (rowOf (sealK M k)), .int .i64 0]) ∧ Below w.heap.size w w' := by
  have hz := z32
  have d1 : decide ((k : Int) < 1) = false := decide_eq_false (by omega)
  have d2 : decide ((1048576 : Int) < (k : Int)) = false := decide_eq_false (by omega)
  have d3 : decide (1048576 < k) = false := decide_eq_false (by omega)
  have d4 : decide (k < 1) = false := decide_eq_false (by omega)
  have hw1 : IntKind.u64.wrap (k : Int) = (k : Int) := IntWalk.u64_in _ (by omega)
  obtain ⟨r, hre⟩ : ∃ r, w.heap.size = r := ⟨_, rfl⟩
  obtain ⟨wm, hwm⟩ : ∃ wm, w.alloc (.cells (rowOf M) 23) = wm := ⟨_, rfl⟩
  have Bm : Below r w wm := by rw [← hwm, ← hre]; exact (Below.refl w.heap.size w).alloc (Nat.le_refl _) _
  have Km : Bk wm r 23 (rowOf M) := by rw [← hwm, ← hre]; exact Bk.new w _ _
  have Sm : wm.heap.size = r + 1 := by rw [← hwm, ← hre]; simp
  obtain ⟨w0, hw0⟩ : ∃ w0, wm.alloc (.cells (rowOf (zbytes 32)) 23) = w0 := ⟨_, rfl⟩
  have B0 : Below wm.heap.size wm w0 := by rw [← hw0]; exact (Below.refl _ _).alloc (Nat.le_refl _) _
  have R0 : Bk w0 (r + 1) 23 (rowOf (zbytes 32)) := by rw [← Sm, ← hw0]; exact Bk.new wm _ _
  have C0 := hidj_ (show KsC w r M w0 from ⟨Bm.trans (B0.mono (by omega)), Km.below B0 Km.lt, R0.lt⟩)
  have RR := hidj_ R0
  have HRE := hidj_ hre
  rw [hre] at hg1
  have HT := hidj_ ht
  have ML := hidj_ hm
  obtain ⟨L, hL⟩ : ∃ L, sealK M k = L := ⟨_, rfl⟩
  have LL := hidj_ (show L.length = 32 by rw [← hL]; exact sealK_len _ _)
  have IM := hidj_ (i32r M hm)
  have IL := hidj_ (i32r L LL.out)
  have QL := hidj_ (show (rowOf (zbytes 32)).size = (rowOf L).size by rw [rowOf_size, rowOf_size, LL.out, zbytes_len])
  have HU := hidj_ (show sealU ++ highB 8 k = sealUse k from rfl)
  have UL := hidj_ (sealUse_len k)
  have HL := hidj_ (show expandB M (sealUse k) 32 = L from hL)
  have HLen := hidj_ (highB_len 8 k)
  have cp := fun W => putHigh_any k 8 8 (by omega) (by omega) (by omega) (.inr (.inl ⟨by omega, by omega, rfl⟩)) W
  rw [hL]
  clear hL ht hm Bm Km B0 R0
  generalize sealUse k = use at *
  generalize highB 8 k = u2 at *
  go_enter Tryd.func15, Tryd.ntmps15
  go_upto_region 3 with fail
  clear hw0 hwm hre Sm d1 d2 d3 d4
  refine region_byJF [13, 14, 15, 16, 17, 18, 19, 20, 21, 22, 23, 5] (KsC w r M) (Kp (r + 1)) (KsR (r + 1) M sealU u2 use L (k : Int)) (fun D _ W => KsJ (r + 1) L D W) (by kernel_rfl) (by kernel_rfl) (by kernel_rfl) (by kernel_rfl) (fun j v w w' hT hr => ?_) (fun j v w hlt hj _ => ?_) ⟨C0.out.below.drew, C0.out.m.drew, C0.out.lt⟩ ?_ ⟨fun _ => RR.out.drew, fun e => Bool.noConfusion e⟩ ?_
  · exact KsR.stable hT j v hr
  · rcases j with _ | _ | _ | _ | _ | _ | _ | _ | _ | _ | _ | _ | _ | j
    all_goals first
      | (exfalso; simp [dstOf] at hj; done)
      | trivial
  · refine ⟨fun D a W hC hd hsz hf hv hJ hL hW K hK => ?_, fun D a W hC hd hsz hf hv hJ hL hW K hK => ?_, fun D a W hC hd hsz hf hv hJ hL hW K hK => ?_, fun D a W hC hd hsz hf hv hJ hL hW K hK => ?_, fun D a W hC hd hsz hf hv hJ hL hW K hK => ?_, fun D a W hC hd hsz hf hv hJ hL hW K hK => ?_, fun D a W hC hd hsz hf hv hJ hL hW K hK => ?_, fun D a W hC hd hsz hf hv hJ hL hW K hK => ?_, fun D a W hC hd hsz hf hv hJ hL hW K hK => ?_, fun D a W hC hd hsz hf hv hJ hL hW K hK => ?_, fun D a W hC hd hsz hf hv hJ hL hW K hK => ?_, fun D a W hC hd hsz hf hv hJ hL hW K hK => ?_, fun D a W hC hd hsz hf hv hJ hL hW K hK => ?_, trivial⟩
    · clear hsz
      have e2 : a.tmps.getD 2 undef = .pointer (some ⟨r, 0, none⟩) := hf 2 (by kernel_rfl)
      exact step_load_rowW (wanted_none rfl) 23 (.tmp 2) rfl r (eval_of e2) 23 (rowOf M) hC.m _ Tryd.underlying23 rfl IM.out (hK _ _ hC (Kp.refl _ _) rfl (hJ.same (Below.refl _ _) 0 (by decide)))
    · clear hsz
      have hbl := (Below.refl W.heap.size W).alloc (Nat.le_refl _) (.cells #[.int .u8 115, .int .u8 101, .int .u8 97, .int .u8 108] 5)
      have hk : Blk8 (W.alloc (.cells #[.int .u8 115, .int .u8 101, .int .u8 97, .int .u8 108] 5)) W.heap.size sealU := by rw [show (#[.int .u8 115, .int .u8 101, .int .u8 97, .int .u8 108] : Array Value) = rowOf sealU from rfl]; exact Blk8.new W sealU
      have hrl := hC.lt
      refine step_run (wanted_none rfl) (v := .slice (some ⟨W.heap.size, 0, none⟩) 4 4) (w' := W.alloc (.cells #[.int .u8 115, .int .u8 101, .int .u8 97, .int .u8 108] 5)) ?_ (hK _ _ (hC.keep hbl) (Kp.of_below hbl) ⟨_, rfl, hrl, RdF.of_block hk (by omega), by unfold World.shape?; rw [show (W.alloc (.cells #[.int .u8 115, .int .u8 101, .int .u8 97, .int .u8 108] 5)).heap[W.heap.size]? = _ from hk]; rfl⟩ (hJ.same hbl 1 (by decide)))
      go_simp
    · clear hsz
      obtain ⟨g, eg, hg1, hg2, hg3⟩ : ∃ g, a.tmps.getD 14 undef = .slice (some ⟨g, 0, none⟩) 4 4 ∧ r + 1 < g ∧ RdF W [r + 1] (some ⟨g, 0, none⟩) sealU ∧ W.shape? g = some (5, 4) := hv 1 (by kernel_rfl)
      have e1 := slot_of (a := a) (s := 14) eg
      have h := run_convert_mark W g 4 4 4 hg3
      refine step_run (wanted_none rfl) (v := .slice (some ⟨g, 0, none⟩) 4 4) (w' := W.freeze ⟨g, 4, none⟩ 1) ?_ (hK _ _ (hC.freeze g 4 1 (by omega)) (Kp.freeze _ _ _ _ _) ⟨g, rfl, hg2.kp (Kp.freeze _ _ _ _ _)⟩ (hJ.freeze g 4 1 (by omega) 2 (by decide)))
      go_simp
    · clear hsz
      have e1 := slot_of (a := a) (s := 1) (v := .int .i64 (k : Int)) (hf 1 (by kernel_rfl))
      refine step_run (wanted_none rfl) (v := .int .i64 (k : Int)) (w' := W) ?_ (hK _ _ hC (Kp.refl _ _) rfl (hJ.same (Below.refl _ _) 3 (by decide)))
      go_simp
    · clear hsz
      have e1 := slot_of (a := a) (s := 16) (v := .int .i64 (k : Int)) (hv 3 (by kernel_rfl))
      refine step_run (wanted_none rfl) (v := .int .u64 (k : Int)) (w' := W) ?_ (hK _ _ hC (Kp.refl _ _) rfl (hJ.same (Below.refl _ _) 4 (by decide)))
      go_simp
    · clear hsz
      have e1 := slot_of (a := a) (s := 17) (v := .int .u64 (k : Int)) (hv 4 (by kernel_rfl))
      have hrl := hC.lt
      refine step_callx 24 #[.int .u64 (k : Int), .int .i64 8] (wanted_none rfl) (w' := W) ?_ ((cp W).mono fun e W2 hh => ?_)
      · go_simp
      · obtain ⟨rfl, hk, hbl⟩ := hh
        exact ⟨_, rfl, hK _ _ (hC.keep hbl) (Kp.of_below hbl) ⟨_, rfl, RdF.of_block hk (by omega)⟩ (hJ.same hbl 5 (by decide))⟩
    · clear hsz
      obtain ⟨g1, eg1, hr1⟩ : ∃ g, a.tmps.getD 15 undef = .slice (some ⟨g, 0, none⟩) 4 4 ∧ RdF W [r + 1] (some ⟨g, 0, none⟩) sealU := hv 2 (by kernel_rfl)
      obtain ⟨g2, eg2, hr2⟩ : ∃ g, a.tmps.getD 18 undef = .slice (some ⟨g, 0, none⟩) 8 8 ∧ RdF W [r + 1] (some ⟨g, 0, none⟩) u2 := hv 5 (by kernel_rfl)
      have e1 := slot_of (a := a) (s := 15) eg1
      have e2 := slot_of (a := a) (s := 18) eg2
      have hrl := hC.lt
      have hbl := (Below.refl W.heap.size W).alloc (Nat.le_refl _) (.cells #[.slice (some ⟨g1, 0, none⟩) 4 4, .slice (some ⟨g2, 0, none⟩) 8 8] 22)
      have hkp : Kp (r + 1) W _ := Kp.of_below hbl
      have hb := Bk.new W 22 #[.slice (some ⟨g1, 0, none⟩) 4 4, .slice (some ⟨g2, 0, none⟩) 8 8]
      refine step_run (wanted_none rfl) (v := .slice (some ⟨W.heap.size, 0, none⟩) 2 2) (w' := W.alloc (.cells #[.slice (some ⟨g1, 0, none⟩) 4 4, .slice (some ⟨g2, 0, none⟩) 8 8] 22)) ?_ (hK _ _ (hC.keep hbl) hkp ⟨_, g1, g2, rfl, by omega, hb.lt, hb.cell 0, hb.cell 1, hr1.kp hkp, hr2.kp hkp⟩ (hJ.same hbl 6 (by decide)))
      go_simp
    · clear hsz
      obtain ⟨q, g1, g2, eq, hq1, hq2, hq3, hq4, hq5, hq6⟩ : ∃ q g1 g2, a.tmps.getD 19 undef = .slice (some ⟨q, 0, none⟩) 2 2 ∧ q ≠ r + 1 ∧ q < W.heap.size ∧ W.cell? ⟨q, 0, none⟩ = some (.slice (some ⟨g1, 0, none⟩) 4 4) ∧ W.cell? ⟨q, 1, none⟩ = some (.slice (some ⟨g2, 0, none⟩) 8 8) ∧ RdF W [r + 1] (some ⟨g1, 0, none⟩) sealU ∧ RdF W [r + 1] (some ⟨g2, 0, none⟩) u2 := hv 6 (by kernel_rfl)
      have e1 := slot_of (a := a) (s := 19) eq
      have hrl := hC.lt
      have hcat : CatAt W W.heap.size q [((some ⟨g1, 0, none⟩ : Option Addr), 4, sealU), (some ⟨g2, 0, none⟩, 8, u2)] := by
        refine ⟨hq2, fun i hi => ?_⟩
        have hlt : i < 2 := hi
        rcases i with _ | _ | i
        · exact ⟨hq3, hq5.rd⟩
        · exact ⟨by rw [hq4]; simp [HLen.out], hq6.rd⟩
        · omega
      have cc := concat_any q 2 2 12 [(some ⟨g1, 0, none⟩, 4, sealU), (some ⟨g2, 0, none⟩, 8, u2)] W rfl (by simp [flat, HLen.out, sealU]) hcat (by omega) (by omega)
      rw [show flat [((some ⟨g1, 0, none⟩ : Option Addr), 4, sealU), (some ⟨g2, 0, none⟩, 8, u2)] = use by simp [flat]; exact HU.out] at cc
      refine step_callx 23 #[.slice (some ⟨q, 0, none⟩) 2 2] (wanted_none rfl) (w' := W) ?_ (cc.mono fun e W2 hh => ?_)
      · go_simp
      · obtain ⟨A5, c5, rfl, ho, hbl⟩ := hh
        exact ⟨_, rfl, hK _ _ (hC.keep hbl) (Kp.of_below hbl) ⟨A5, c5, rfl, RdF.of_own ho hrl, ho.cap.1, ho.cap.2⟩ (hJ.same hbl 7 (by decide))⟩
    · clear hsz
      obtain ⟨A5, c5, e5, hr5, hc5, hm5⟩ : ∃ A c, a.tmps.getD 20 undef = .slice A 12 c ∧ RdF W [r + 1] A use ∧ 12 ≤ c ∧ c ≤ 9223372036854775807 := hv 7 (by kernel_rfl)
      have e1 := slot_of (a := a) (s := 13) (v := .agg (rowOf M)) (hv 0 (by kernel_rfl))
      have e2 := slot_of (a := a) (s := 20) e5
      have hrl := hC.lt
      have ck := keyFor_any W M ML.out A5 12 c5 use UL.out (by omega) hc5 hm5 hr5.rd (fun t h => (hC.below.cell (p := ⟨_, t, none⟩) hg1).trans (HT.out t h)) (by omega)
      rw [HL.out] at ck
      refine step_callx 21 #[.agg (rowOf M), .slice A5 12 c5] (wanted_none rfl) (w' := W) ?_ (ck.mono fun e W2 hh => ?_)
      · go_simp
      · obtain ⟨rfl, hbl⟩ := hh
        exact ⟨_, rfl, hK _ _ (hC.keep hbl) (Kp.of_below hbl) rfl (hJ.same hbl 8 (by decide))⟩
    · clear hsz
      have e1 := slot_of (a := a) (s := 21) (v := .tuple #[.agg (rowOf L), .int .i64 0]) (hv 8 (by kernel_rfl))
      refine step_run (wanted_none rfl) (v := .agg (rowOf L)) (w' := W) ?_ (hK _ _ hC (Kp.refl _ _) rfl (hJ.same (Below.refl _ _) 9 (by decide)))
      go_simp
    · clear hsz
      have e1 := slot_of (a := a) (s := 21) (v := .tuple #[.agg (rowOf L), .int .i64 0]) (hv 8 (by kernel_rfl))
      refine step_run (wanted_none rfl) (v := .int .i64 0) (w' := W) ?_ (hK _ _ hC (Kp.refl _ _) rfl (hJ.same (Below.refl _ _) 10 (by decide)))
      go_simp
    · clear hsz
      refine step_put_row rfl 23 (.tmp 4) (.tmp 22) rfl (r + 1) (rowOf L) (eval_of (hf 4 (by kernel_rfl))) (eval_of (hv 9 (by kernel_rfl))) 23 (rowOf (zbytes 32)) (hJ.1 hL) IL.out QL.out (bytes_one _) ?_
      intro W2 k2 g2 s2
      have hrl := hC.lt
      exact hK undef _ ⟨hC.below.grown g2 (by have := hC.below.size; have := HRE.out; omega) (fun k hk => by injection hk with hk; omega), (g2.block r (by omega) (fun e => by injection e with e; omega)).trans hC.m, by omega⟩ (Kp.of_grown g2) trivial ⟨fun e => by simp at e, fun _ => k2⟩
    · clear hsz
      have e1 := slot_of (a := a) (s := 23) (v := .int .i64 0) (hv 10 (by kernel_rfl))
      refine step_run (wanted_none rfl) (v := .int .i64 0) (w' := W) ?_ (hK _ _ hC (Kp.refl _ _) rfl (hJ.same (Below.refl _ _) 12 (by decide)))
      go_simp
  · intro f w7 hC7 hv7 D7 hD7 hJ7
    obtain ⟨a7, hJ, -⟩ := hJ7
    have K7 := hJ.2 (hD7 11 (by decide))
    have B7 := hC7.below
    have f5 : f 5 = .int .i64 0 := hv7 12 (by decide)
    simp only [framed, List.foldl_cons, List.foldl_nil, List.setIfInBounds_toArray, List.set_cons_succ, List.set_cons_zero]
    rw [f5]
    clear hv7 hD7 hJ hC7
    go_wp2
    exact bodyPost_ret (results_cell_slot Tryd.results15 _ _ (r + 1) rfl rfl (run_loadVar_row _ _ _ _ _ (0, 0) _ K7 Tryd.underlying23 rfl IL.out)) rfl ⟨rfl, HRE.out ▸ B7⟩

set_option maxRecDepth 100000 in
set_option maxHeartbeats 4000000 in
theorem blind_big (w : World) (m : List UInt8) (A : Option Addr) (n c : Nat) (hn : 64 < n) :
    Calls Tryd.prog 11 #[.agg (rowOf m), .slice A n c] w fun e w' => e = .returned (.tuple #[.agg (rowOf (zbytes 32)), .int .i64 1]) ∧ Below w.heap.size w w' := by
  have hz := zB
  have d1 : decide ((n : Int) < 1) = false := decide_eq_false (by omega)
  have d2 : decide ((64 : Int) < (n : Int)) = true := decide_eq_true (by omega)
  have d3 : decide (64 < n) = true := decide_eq_true hn
  have BK := hidn_ (Bk.new (w.alloc (.cells (rowOf m) 23)) 32 (rowOf (zbytes 32)))
  have e1 : (w.alloc (.cells (rowOf m) 23)).heap.size = w.heap.size + 1 := by simp
  have I := hidn_ (iB (zbytes 32) (zbytes_len 32))
  have HB := hidn_ (((Below.refl w.heap.size w).alloc (Nat.le_refl _) (.cells (rowOf m) 23)).alloc (by omega) (.cells (rowOf (zbytes 32)) 32))
  rw [e1] at BK
  clear hn
  generalize rowOf m = M at *
  go_enter Tryd.func11, Tryd.ntmps11
  go_wp2_with (first
    | (refine wpList_built rfl 32 _ rfl (rowOf (zbytes 32)) (by kernel_rfl) ?_)
    | (refine wpList_put_row rfl 32 _ _ rfl (w.heap.size + 1) (rowOf (zbytes 32)) rfl rfl 32 (rowOf (zbytes 32)) BK.out I.out rfl (bytes_one _) ?_; intro W9 k9 g9 s9))
  exact bodyPost_ret (results_cell_slot Tryd.results11 _ _ (w.heap.size + 1) rfl rfl (run_loadVar_row _ _ _ _ _ (0, 0) _ k9 Tryd.underlying32 rfl I.out)) rfl ⟨rfl, HB.out.grown g9 HB.out.size (fun k hk => by injection hk with hk; omega)⟩
set_option maxRecDepth 100000 in
set_option maxHeartbeats 4000000 in
theorem blind_yes (w : World) (M : List UInt8) (hm : M.length = 32) (A8 : Option Addr) (n8 c8 : Nat) (name : List UInt8) (hn8 : name.length = n8) (h1 : 1 ≤ n8) (h2 : n8 ≤ 64) (hc8 : n8 ≤ c8) (hcm8 : c8 ≤ 9223372036854775807) (hr8 : Rd w w.heap.size A8 name) (ht : Tab w) (hg1 : 1 < w.heap.size) :
    Calls Tryd.prog 11 #[.agg (rowOf M), .slice A8 n8 c8] w fun e w' => e = .returned (.tuple #[.agg (rowOf (blindK M name)), .int .i64 0]) ∧ Below w.heap.size w w' := by
  have hz := z32
  have hzB := zB
  have hall := dig_all
  have d1 : decide ((n8 : Int) < 1) = false := decide_eq_false (by omega)
  have d2 : decide ((64 : Int) < (n8 : Int)) = false := decide_eq_false (by omega)
  have d3 : decide (64 < n8) = false := decide_eq_false (by omega)
  have d4 : decide (n8 < 1) = false := decide_eq_false (by omega)
  obtain ⟨r, hre⟩ : ∃ r, w.heap.size = r := ⟨_, rfl⟩
  obtain ⟨wm, hwm⟩ : ∃ wm, w.alloc (.cells (rowOf M) 23) = wm := ⟨_, rfl⟩
  have Bm : Below r w wm := by rw [← hwm, ← hre]; exact (Below.refl w.heap.size w).alloc (Nat.le_refl _) _
  have Km : Bk wm r 23 (rowOf M) := by rw [← hwm, ← hre]; exact Bk.new w _ _
  have Sm : wm.heap.size = r + 1 := by rw [← hwm, ← hre]; simp
  obtain ⟨w0, hw0⟩ : ∃ w0, wm.alloc (.cells (rowOf (zbytes 32)) 32) = w0 := ⟨_, rfl⟩
  have B0 : Below wm.heap.size wm w0 := by rw [← hw0]; exact (Below.refl _ _).alloc (Nat.le_refl _) _
  have R0 : Bk w0 (r + 1) 32 (rowOf (zbytes 32)) := by rw [← Sm, ← hw0]; exact Bk.new wm _ _
  have S0 : w0.heap.size = r + 2 := by rw [← hw0]; simp [Sm]
  have C0 := show KsC w r M w0 from ⟨Bm.trans (B0.mono (by omega)), Km.below B0 Km.lt, R0.lt⟩
  obtain ⟨w1, hw1⟩ : ∃ w1, w0.alloc (.cells #[.int .u8 98, .int .u8 108, .int .u8 105, .int .u8 110, .int .u8 100] 5 (5, 6)) = w1 := ⟨_, rfl⟩
  have B1 : Below w0.heap.size w0 w1 := by rw [← hw1]; exact (Below.refl _ _).alloc (Nat.le_refl _) _
  have RB : Rd w1 (r + 3) (some ⟨r + 2, 0, none⟩) blindU := by
    have h := rd_mark w0 blindU (5, 6)
    rw [show rowOf blindU = #[.int .u8 98, .int .u8 108, .int .u8 105, .int .u8 110, .int .u8 100] from rfl, hw1, S0] at h
    exact h
  have S1 : w1.heap.size = r + 3 := by rw [← hw1]; simp [S0]
  have C1 := hidj_ (C0.keep B1)
  have K0 := hidj_ C0.m
  have IM := hidj_ (i32r M hm)
  have k1 := Lib.run_convert_bytes_const (P := Tryd.prog) w0 22 5 #[.int .u8 98, .int .u8 108, .int .u8 105, .int .u8 110, .int .u8 100] 5 5 Tryd.underlying22 Tryd.underlying5
  rw [S0] at k1
  have RR := hidj_ (R0.below B1 R0.lt)
  have HRE := hidj_ hre
  rw [hre] at hg1 hr8
  have HT := hidj_ ht
  have H8 := hidj_ hr8
  have N8 := hidj_ hn8
  have ck := keyFor_any w1 M hm (some ⟨r + 2, 0, none⟩) 5 5 blindU rfl (by omega) (Nat.le_refl _) (by omega) (RB.more (by omega)) (fun t h => (C1.out.below.cell (p := ⟨_, t, none⟩) hg1).trans (ht t h)) (by omega)
  obtain ⟨K, hK⟩ : ∃ K, expandB M blindU 32 = K := ⟨_, rfl⟩
  have KL := hidj_ (show K.length = 32 by rw [← hK]; exact expandB_len _ _ _ (by omega))
  obtain ⟨L, hL⟩ : ∃ L, blindK M name = L := ⟨_, rfl⟩
  have LL := hidj_ (show L.length = 32 by rw [← hL]; exact blindK_len _ _)
  have HLK := hidj_ (show hmacB K name = L by rw [← hL, ← hK]; rfl)
  rw [hK] at ck
  rw [hL]
  have IK := hidj_ (i32r K KL.out)
  have QK := hidj_ (show (rowOf (zbytes 32)).size = (rowOf K).size by rw [rowOf_size, rowOf_size, KL.out, zbytes_len])
  have IL := hidj_ (iB L LL.out)
  have QL := hidj_ (show (rowOf (zbytes 32)).size = (rowOf L).size by rw [rowOf_size, rowOf_size, LL.out, zbytes_len])
  clear hL hK ht hm Bm Km B0 R0 C0 B1 RB hr8 hn8
  go_enter Tryd.func11, Tryd.ntmps11
  go_upto_region 6 with (first
    | (refine wpList_load_row rfl 23 (.tmp 2) rfl r rfl 23 (rowOf M) (0, 0) _ K0.out Tryd.underlying23 rfl IM.out ?_)
    | (go_at_call 21; ((with_reducible refine ck.mono ?_); rintro e w5 ⟨rfl, hb⟩; have C5 := hidj_ (C1.out.keep hb); have R5 := hidj_ (RR.out.below hb RR.out.lt); clear hb ck))
    | (refine wpList_put_row rfl 23 _ _ rfl w5.heap.size (rowOf K) rfl rfl 23 (rowOf (zbytes 32)) (Bk.new w5 _ _) IK.out QK.out (bytes_one _) ?_; intro w6 k6 g6 s6; have BX : Below w5.heap.size w5 w6 := (((Below.refl w5.heap.size w5).alloc (Nat.le_refl _) (.cells (rowOf (zbytes 32)) 23)).grown g6 (by simp) (fun k hk => by injection hk with hk; omega)); have D6 := hidj_ k6; have C6 := hidj_ (C5.out.keep BX); have R6 := hidj_ (R5.out.below BX R5.out.lt); clear k6 g6 s6 BX))
  have KL6 := hidj_ (D6.out.rd D6.out.lt)
  generalize w5.heap.size = gk at *
  obtain ⟨w7, hw7⟩ : ∃ w7, w6.alloc (.cells #[.slice A8 n8 c8] 22) = w7 := ⟨_, rfl⟩
  have B7 : Below w6.heap.size w6 w7 := by rw [← hw7]; exact (Below.refl _ _).alloc (Nat.le_refl _) _
  have P7 : Bk w7 w6.heap.size 22 #[.slice A8 n8 c8] := by rw [← hw7]; exact Bk.new w6 _ _
  have C7 := hidj_ (C6.out.keep B7)
  have R7 := hidj_ (R6.out.below B7 R6.out.lt)
  have hle7 : r ≤ w7.heap.size := by have := C7.out.lt; omega
  have ch := hmac_any w7 (some ⟨gk, 0, none⟩) 32 32 K KL.out (by omega) (Nat.le_refl _) (by omega) ((KL6.out.below B7).more B7.size) (some ⟨w6.heap.size, 0, none⟩) 1 1 [name] rfl (parts_1m P7 N8.out ((H8.out.below C7.out.below).more hle7) hc8 hcm8) (by omega) (by simp [N8.out]; omega) (fun t h => (C7.out.below.cell (p := ⟨_, t, none⟩) hg1).trans (HT.out t h)) (by omega)
  rw [show ([name] : List (List UInt8)).flatten = name by simp, HLK.out] at ch
  clear B7 P7
  go_wp2_with (first
    | (go_at_call 18; ((with_reducible refine ch.mono ?_); rintro e w8 ⟨rfl, hb⟩; have C8 := hidj_ (C7.out.keep hb); have R8 := hidj_ (R7.out.below hb R7.out.lt); clear hb ch))
    | (refine wpList_put_row rfl 32 _ _ rfl (r + 1) (rowOf L) rfl rfl 32 (rowOf (zbytes 32)) R8.out IL.out QL.out (bytes_one _) ?_; intro W9 k9 g9 s9))
  exact bodyPost_ret (results_cell_slot Tryd.results11 _ _ (r + 1) rfl rfl (run_loadVar_row _ _ _ _ _ (0, 0) _ k9 Tryd.underlying32 rfl IL.out)) rfl ⟨rfl, by rw [HRE.out]; exact C8.out.below.grown g9 (by have := C8.out.lt; omega) (fun k hk => by injection hk with hk; omega)⟩
end Go.Proofs.YteijlgifcmlkoaaDoor
