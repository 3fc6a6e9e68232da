/-
  The vaults that are made; a draw; the ordinal of a name.
-/
import Derived.Test.YtoeofifibjelnaaDoorYb
import Derived.Test.YtoeofifibjelnaaDoorHB
import Derived.Test.YtoeofifibjelnaaDoorKK
namespace Go.Proofs.YtoeofifibjelnaaDoor
set_option maxRecDepth 100000
open Go.RowKit Go.Maps
set_option linter.unusedVariables false
set_option linter.unusedSimpArgs false

theorem run_load_suby {P : Program} {w : World} (ty : TypeId) (g off : Nat) (cs : Array Value) (hc : ∀ j, j < cs.size → w.cell? ⟨g, off + j, none⟩ = cs[j]?) (d : TypeDesc)
    (hu : P.underlying ty = some d) (hd : (match d with | .struct _ | .array _ _ => true | _ => false) = true) (hi : (P.info? ty).map (·.size) = some cs.size) : (loadVar ty ⟨g, off, none⟩).run P w = .ok (.agg cs) w := by
  have hl : (loadCells ⟨g, off, none⟩ cs.toList.length).run P w = .ok cs.toList.toArray w :=
    run_loadCells_list (P := P) w ⟨g, off, none⟩ cs.toList (fun j v hv => by
      have hadd : (⟨g, off, none⟩ : Addr).add j = ⟨g, off + j, none⟩ := by unfold Addr.add; split <;> simp_all
      have hj : j < cs.size := by
        have := (List.getElem?_eq_some_iff.1 hv).1
        simpa using this
      rw [hadd, hc j hj]
      simpa using hv)
  cases hq : P.info? ty with
  | none => simp [hq] at hi
  | some i =>
    have hs : i.size = cs.size := by simpa [hq] using hi
    have hagg : (isAgg ty).run P w = .ok true w := by
      unfold isAgg
      rw [Sem.run_bind, run_underlying hu w]
      cases d <;> simp_all
    simp only [Array.length_toList, Array.toArray_toList] at hl
    simp [loadVar, Sem.run_bind, hagg, sizeOf, typeInfo, hq, hs, hl]
theorem ql_suby {P : Program} {C : World → Prop} {o : Oper} {a : Act} {K : Act → Prop} (ty : TypeId) (x : Operand) (ho : o.op = .load ty x) (g off : Nat) (hx : a.eval x = .pointer (some ⟨g, off, none⟩)) (cs : Array Value) (d : TypeDesc)
    (hu : P.underlying ty = some d) (hd : (match d with | .struct _ | .array _ _ => true | _ => false) = true) (hi : (P.info? ty).map (·.size) = some cs.size)
    (h : ∀ W, C W → ∀ j, j < cs.size → W.cell? ⟨g, off + j, none⟩ = cs[j]?) (hk : K (a.put o.dst (.agg cs))) : o.quiet P a C K :=
  quiet_run (.agg cs) (fun W hW => by
    have hrun := run_load_suby (P := P) ty g off cs (h W hW) d hu hd hi
    unfold execOp
    simp only [ho, hx, Instr.loadAt, Instr.sureAddr, Sem.run_bind, Sem.run_pure, Result.andThen_ok, hrun]) hk


set_option maxRecDepth 100000 in
set_option maxHeartbeats 2000000 in
theorem ideal_new (w : World) (K : List UInt8) (hK : K.length = 32) :
    Calls Tryd.prog 7 #[.agg (rowOf K)] w fun e w' => ∃ v sp nm kn F, e = .returned (.pointer (some ⟨v, 0, none⟩)) ∧ VltI w' v sp nm kn K [] [] [] F ∧ (∀ k ∈ F, w.heap.size ≤ k) ∧ Below w.heap.size w w' := by
  have hmm := @run_makeMap Tryd.prog
  obtain ⟨g, hg⟩ : ∃ g, w.heap.size = g := ⟨_, rfl⟩
  obtain ⟨w0, hw0⟩ : ∃ w0, w.alloc (.cells (rowOf K) 22) = w0 := ⟨_, rfl⟩
  have K0 : Bk w0 g 22 (rowOf K) := by rw [← hw0, ← hg]; exact Bk.new w _ _
  have B0 : Below g w w0 := by rw [← hw0, ← hg]; exact (Below.refl _ _).alloc (Nat.le_refl _) _
  have S0 : w0.heap.size = g + 1 := by rw [← hw0, ← hg]; simp
  obtain ⟨w1, hw1⟩ : ∃ w1, w0.alloc (.map #[] 0) = w1 := ⟨_, rfl⟩
  have M1 : MapIs w1 58 (g + 1) 0 (fun _ => none) := by rw [← hw1, ← S0]; exact MapIs.made w0 _
  have B1 : Below w0.heap.size w0 w1 := by rw [← hw1]; exact (Below.refl _ _).alloc (Nat.le_refl _) _
  have S1 : w1.heap.size = g + 2 := by rw [← hw1]; simp [S0]
  obtain ⟨w2, hw2⟩ : ∃ w2, w1.alloc (.map #[] 0) = w2 := ⟨_, rfl⟩
  have M2 : MapIs w2 9 (g + 2) 0 (fun _ => none) := by rw [← hw2, ← S1]; exact MapIs.made w1 _
  have B2 : Below w1.heap.size w1 w2 := by rw [← hw2]; exact (Below.refl _ _).alloc (Nat.le_refl _) _
  have S2 : w2.heap.size = g + 3 := by rw [← hw2]; simp [S1]
  obtain ⟨w3, hw3⟩ : ∃ w3, w2.alloc (.map #[] 0) = w3 := ⟨_, rfl⟩
  have M3 : MapIs w3 64 (g + 3) 0 (fun _ => none) := by rw [← hw3, ← S2]; exact MapIs.made w2 _
  have B3 : Below w2.heap.size w2 w3 := by rw [← hw3]; exact (Below.refl _ _).alloc (Nat.le_refl _) _
  have S3 : w3.heap.size = g + 4 := by rw [← hw3]; simp [S2]
  obtain ⟨w4, hw4⟩ : ∃ w4, w3.alloc (.cells (vrow true K (some (g + 1)) (some (g + 2)) (some (g + 3))) 50) = w4 := ⟨_, rfl⟩
  have K4 : Bk w4 (g + 4) 50 (vrow true K (some (g + 1)) (some (g + 2)) (some (g + 3))) := by rw [← hw4, ← S3]; exact Bk.new w3 _ _
  have B4 : Below w3.heap.size w3 w4 := by rw [← hw4]; exact (Below.refl _ _).alloc (Nat.le_refl _) _
  have S4 : w4.heap.size = g + 5 := by rw [← hw4]; simp [S3]
  have HV := hidyb_ (show VltI w4 (g + 4) (g + 1) (g + 2) (g + 3) K [] [] [] [g + 4, g + 1, g + 2, g + 3] from ⟨K4,
    by rw [fS_nil]; exact M1.keep ((B4.block _ (by omega)).trans ((B3.block _ (by omega)).trans (B2.block _ (by omega)))),
    by rw [fN_nil]; exact M2.keep ((B4.block _ (by omega)).trans (B3.block _ (by omega))),
    ⟨0, fun _ => none, Nat.le_refl _, M3.keep (B4.block _ (by omega)), ⟨fun t ht => (by cases ht), fun x u h => (by cases h)⟩⟩,
    hK, by omega, by omega, by omega, by simp, by simp, by simp, by simp, (fun t ht => by cases ht), by intro k hk; simp at hk; omega⟩)
  have HX := hidyb_ (show Below g w w4 from B0.trans ((B1.trans ((B2.trans ((B3.trans (B4.mono (by omega))).mono (by omega))).mono (by omega))).mono (by omega)))
  have HB := hidyb_ (built_v K hK (some (g + 1)) (some (g + 2)) (some (g + 3)))
  have I := hidyb_ (ib32 K hK)
  have IV := infoV
  have VS := hidyb_ (vrow_size true K hK (some (g + 1)) (some (g + 2)) (some (g + 3)))
  clear M1 M2 M3 B0 B1 B2 B3 B4 K4 hK
  go_enter Tryd.func7, Tryd.ntmps7
  go_upto_region 1 with fail
  go_wp2_with (first
    | (refine wpList_load_row rfl 22 _ rfl g rfl 22 (rowOf K) (0, 0) _ K0 Tryd.underlying22 rfl I.out ?_)
    | (refine wpList_built rfl 50 _ rfl (vrow true K (some (g + 1)) (some (g + 2)) (some (g + 3))) (by simp only [List.map_toArray, List.map_cons, List.map_nil]; exact HB.out) ?_))
  go_ret
  exact ⟨_, _, _, _, _, rfl, HV.out, (by intro k hk; simp at hk; omega), by rw [hg]; exact HX.out⟩
set_option maxRecDepth 100000 in
set_option maxHeartbeats 2000000 in
theorem real_new (w : World) (K : List UInt8) (hK : K.length = 32) :
    Calls Tryd.prog 12 #[.agg (rowOf K)] w fun e w' => ∃ v sp F, e = .returned (.pointer (some ⟨v, 0, none⟩)) ∧ VltR w' v sp K [] F ∧ (∀ k ∈ F, w.heap.size ≤ k) ∧ Below w.heap.size w w' := by
  have hmm := @run_makeMap Tryd.prog
  obtain ⟨g, hg⟩ : ∃ g, w.heap.size = g := ⟨_, rfl⟩
  obtain ⟨w0, hw0⟩ : ∃ w0, w.alloc (.cells (rowOf K) 22) = w0 := ⟨_, rfl⟩
  have K0 : Bk w0 g 22 (rowOf K) := by rw [← hw0, ← hg]; exact Bk.new w _ _
  have B0 : Below g w w0 := by rw [← hw0, ← hg]; exact (Below.refl _ _).alloc (Nat.le_refl _) _
  have S0 : w0.heap.size = g + 1 := by rw [← hw0, ← hg]; simp
  obtain ⟨w1, hw1⟩ : ∃ w1, w0.alloc (.map #[] 0) = w1 := ⟨_, rfl⟩
  have M1 : MapIs w1 58 (g + 1) 0 (fun _ => none) := by rw [← hw1, ← S0]; exact MapIs.made w0 _
  have B1 : Below w0.heap.size w0 w1 := by rw [← hw1]; exact (Below.refl _ _).alloc (Nat.le_refl _) _
  have S1 : w1.heap.size = g + 2 := by rw [← hw1]; simp [S0]
  obtain ⟨w4, hw4⟩ : ∃ w4, w1.alloc (.cells (vrow false K (some (g + 1)) none none) 50) = w4 := ⟨_, rfl⟩
  have K4 : Bk w4 (g + 2) 50 (vrow false K (some (g + 1)) none none) := by rw [← hw4, ← S1]; exact Bk.new w1 _ _
  have B4 : Below w1.heap.size w1 w4 := by rw [← hw4]; exact (Below.refl _ _).alloc (Nat.le_refl _) _
  have S4 : w4.heap.size = g + 3 := by rw [← hw4]; simp [S1]
  have HV := hidyb_ (show VltR w4 (g + 2) (g + 1) K [] [g + 2, g + 1] from ⟨K4,
    by rw [fS_nil]; exact M1.keep (B4.block _ (by omega)), hK, by simp, by simp, by intro k hk; simp at hk; omega⟩)
  have HX := hidyb_ (show Below g w w4 from B0.trans ((B1.trans (B4.mono (by omega))).mono (by omega)))
  have HB := hidyb_ (built_r K hK (some (g + 1)))
  have I := hidyb_ (ib32 K hK)
  have IV := infoV
  have VS := hidyb_ (vrow_size false K hK (some (g + 1)) none none)
  clear M1 B0 B1 B4 K4 hK
  go_enter Tryd.func12, Tryd.ntmps12
  go_upto_region 1 with fail
  go_wp2_with (first
    | (refine wpList_load_row rfl 22 _ rfl g rfl 22 (rowOf K) (0, 0) _ K0 Tryd.underlying22 rfl I.out ?_)
    | (refine wpList_built rfl 50 _ rfl (vrow false K (some (g + 1)) none none) (by simp only [List.map_toArray, List.map_cons, List.map_nil]; exact HB.out) ?_))
  go_ret
  exact ⟨_, _, _, rfl, HV.out, (by intro k hk; simp at hk; omega), by rw [hg]; exact HX.out⟩
theorem cat_rd (w3 : World) (A1 A2 : Option Addr) (n1 n2 c1 c2 : Nat) (l1 l2 : List UInt8) (h1 : Rd w3 w3.heap.size A1 l1) (h2 : Rd w3 w3.heap.size A2 l2) (hn1 : l1.length = n1) (hn2 : l2.length = n2) :
    CatAt (w3.alloc (.cells #[.slice A1 n1 c1, .slice A2 n2 c2] 29)) (w3.alloc (.cells #[.slice A1 n1 c1, .slice A2 n2 c2] 29)).heap.size w3.heap.size [(A1, c1, l1), (A2, c2, l2)] := by
  have hb := Bk.new w3 29 #[.slice A1 n1 c1, .slice A2 n2 c2]
  have hB := (Below.refl w3.heap.size w3).alloc (Nat.le_refl _) (.cells #[.slice A1 n1 c1, .slice A2 n2 c2] 29)
  refine ⟨hb.lt, fun i hi => ?_⟩
  have hcell := hb.cell i
  have hlt : i < 2 := hi
  rcases i with _ | _ | i
  · exact ⟨hcell.trans (by simp [hn1]), (h1.below hB).more hB.size⟩
  · exact ⟨hcell.trans (by simp [hn2]), (h2.below hB).more hB.size⟩
  · omega
/-- What an ideal vault draws. -/
def drawB (K : List UInt8) (kind ord n : Nat) : List UInt8 := highB 8 ord ++ streamB K (nonceB kind ord) 0 (zbytes n)
theorem drawB_len (K : List UInt8) (kind ord n : Nat) : (drawB K kind ord n).length = 8 + n := by rw [drawB, List.length_append, highB_len, streamB_len, zbytes_len]
/-- What the draw's operations leave. -/
def DrR (v g0 g5 c5 gz n g6 : Nat) (K No o8 Sm D : List UInt8) : Nat → Value → World → Prop
  | 0, u, _ => u = .slice (some ⟨g0, 0, none⟩) 8 8
  | 1, u, _ => u = .pointer (some ⟨v, 0, none⟩)
  | 2, u, _ => u = .pointer (some ⟨v, 0, none⟩)
  | 3, u, _ => u = .pointer (some ⟨v, 1, none⟩)
  | 4, u, _ => u = .agg (rowOf K)
  | 5, u, _ => u = .slice (some ⟨g5, 0, none⟩) 12 c5
  | 6, u, _ => u = .pointer (some ⟨g5, 0, none⟩)
  | 7, u, _ => u = .agg (rowOf No)
  | 8, u, _ => u = .slice (some ⟨gz, 0, none⟩) n n
  | 9, u, W => ∃ A c, u = .slice A n c ∧ Rd W W.heap.size A Sm
  | 10, u, W => ∃ q A c, u = .slice (some ⟨q, 0, none⟩) 2 2 ∧ CatAt W W.heap.size q [(some ⟨g0, 0, none⟩, 8, o8), (A, c, Sm)]
  | 11, u, W => ∃ A c, u = .slice A (8 + n) c ∧ Own8 W g6 (.slice A (8 + n) c) D
  | 12, u, W => ∃ A c, u = .slice A (8 + n) c ∧ Own8 W g6 (.slice A (8 + n) c) D
  | _, _, _ => True
theorem CatAt.more {w : World} {B B' g : Nat} {ps : List (Option Addr × Nat × List UInt8)} (h : CatAt w B g ps) (hB : B ≤ B') : CatAt w B' g ps :=
  ⟨Nat.lt_of_lt_of_le h.1 hB, fun i hi => ⟨(h.2 i hi).1, (h.2 i hi).2.more hB⟩⟩
theorem DrR.stable {v g0 g5 c5 gz n g6 : Nat} {K No o8 Sm D : List UInt8} {W W' : World} (hT : Below W.heap.size W W') : ∀ (j : Nat) (u : Value), DrR v g0 g5 c5 gz n g6 K No o8 Sm D j u W → DrR v g0 g5 c5 gz n g6 K No o8 Sm D j u W'
  | 0, _, h => h
  | 1, _, h => h
  | 2, _, h => h
  | 3, _, h => h
  | 4, _, h => h
  | 5, _, h => h
  | 6, _, h => h
  | 7, _, h => h
  | 8, _, h => h
  | 9, _, ⟨A, c, e, h⟩ => ⟨A, c, e, (h.below hT).more hT.size⟩
  | 10, _, ⟨q, A, c, e, h⟩ => ⟨q, A, c, e, (h.below hT).more hT.size⟩
  | 11, _, ⟨A, c, e, h⟩ => ⟨A, c, e, h.below hT (Nat.le_refl _)⟩
  | 12, _, ⟨A, c, e, h⟩ => ⟨A, c, e, h.below hT (Nat.le_refl _)⟩
  | _ + 13, _, _ => trivial
set_option maxRecDepth 100000 in
set_option maxHeartbeats 4000000 in
theorem draw_any {w : World} {v : Nat} {id : Bool} {K : List UInt8} {sp nm kn : Option Nat} (h : Bk w v 50 (vrow id K sp nm kn)) (hK : K.length = 32) (kind ord n : Nat) (hk : kind ≤ 1) (ho : ord ≤ 4611686018427387904) (hn : n ≤ 1000000) :
    Calls Tryd.prog 17 #[.pointer (some ⟨v, 0, none⟩), .int .i64 (kind : Int), .int .i64 (ord : Int), .int .i64 ((n : Int) + 8)] w (NewP w (8 + n) (drawB K kind ord n)) := by
  have hw1 : IntKind.u64.wrap (kind : Int) = (kind : Int) := IntWalk.u64_in _ (by omega)
  have hw2 : IntKind.u64.wrap (ord : Int) = (ord : Int) := IntWalk.u64_in _ (by omega)
  have hw3 : IntKind.i64.wrap ((n : Int) + 8 - 8) = (n : Int) := by
    have : (n : Int) + 8 - 8 = (n : Int) := by omega
    rw [this]; exact IntWalk.i64_in _ (by omega)
  have hw4 : (n : Int) + 8 - 8 = (n : Int) := by omega
  have hmk := fun W => mk8 n (by omega) W
  have c1 := fun W => putHigh_any ord 8 8 (by omega) (by omega) (by omega) (.inr (.inl ⟨by omega, by omega, rfl⟩)) W
  have c2 := fun W => putHigh_any kind 4 4 (by omega) (by omega) (by omega) (.inr (.inl ⟨by omega, by omega, rfl⟩)) W
  have HV := hidyb_ h
  have KL := hidyb_ hK
  have NL := hidyb_ (nonceB_len kind ord)
  have I32 := hidyb_ (ib32 K hK)
  have I12 := hidyb_ (ib12 (nonceB kind ord) (nonceB_len kind ord))
  have hat : ∀ (A : Option Addr) (c : Nat) (W : World), (Instr.arrayAt 54 (.slice A 12 c)).run Tryd.prog W = .ok (.pointer A) W := fun A c W => run_arrayAt W 54 5 12 A 12 c Tryd.underlying54 (Nat.le_refl _)
  have hvl := h.lt
  clear h hK hk ho
  go_enter Tryd.func17, Tryd.ntmps17
  go_upto_region 4 with (first
    | (go_at_call 25; ((with_reducible refine (c1 _).mono ?_); rintro e w2 ⟨rfl, hb, hB⟩; have P2 := hidyb_ hb; have V2 := hidyb_ (HV.out.below hB hvl); have B2 := hidyb_ hB; clear hb hB))
    | (go_at_call 25; ((with_reducible refine (c2 _).mono ?_); rintro e w3 ⟨rfl, hb, hB⟩; have P3 := hidyb_ hb; have P23 := hidyb_ (P2.out.below hB P2.out.lt); have V3 := hidyb_ (V2.out.below hB V2.out.lt); have B3 := hidyb_ (B2.out.trans (hB.mono B2.out.size)); clear hb hB))
    | (go_at_call 26; have cc := concat_any w3.heap.size 2 2 12 [(some ⟨w2.heap.size, 0, none⟩, 4, highB 4 kind), (some ⟨w.heap.size, 0, none⟩, 8, highB 8 ord)] _ rfl (by simp [flat, highB_len]) (cat_two w3 w2.heap.size w.heap.size 4 8 _ _ P3.out P23.out (highB_len _ _) (highB_len _ _)) (by omega) (by omega); ((with_reducible refine cc.mono ?_); clear cc; rintro e w5 ⟨A5, c5, rfl, ho, hb⟩; rw [show flat [((some ⟨w2.heap.size, 0, none⟩ : Option Addr), 4, highB 4 kind), (some ⟨w.heap.size, 0, none⟩, 8, highB 8 ord)] = nonceB kind ord by simp [flat, nonceB]] at ho; obtain ⟨g5, rfl⟩ := ho.block_ (by omega); have O5 := hidyb_ ho; have P5 := hidyb_ (P23.out.below (((Below.refl w3.heap.size w3).alloc (Nat.le_refl _) _).trans (hb.mono (by simp))) P23.out.lt); have V5 := hidyb_ (V3.out.below (((Below.refl w3.heap.size w3).alloc (Nat.le_refl _) _).trans (hb.mono (by simp))) V3.out.lt); have B5 := hidyb_ (B3.out.trans ((((Below.refl w3.heap.size w3).alloc (Nat.le_refl _) _).trans (hb.mono (by simp))).mono B3.out.size)); clear ho hb)))
  rename_i K9 hK9
  obtain ⟨w6, hw6⟩ : ∃ w6, w5.alloc (.cells (rowOf (List.replicate n 0)) 5) = w6 := ⟨_, rfl⟩
  have hb6 : Below w5.heap.size w5 w6 := by rw [← hw6]; exact (Below.refl _ _).alloc (Nat.le_refl _) _
  have Z6 := hidyb_ (show Blk8 w6 w5.heap.size (zbytes n) by rw [← hw6]; exact Blk8.new w5 _)
  have V6 := hidyb_ (V5.out.below hb6 V5.out.lt)
  have P6 := hidyb_ (P5.out.below hb6 P5.out.lt)
  have B6 := hidyb_ (B5.out.trans (hb6.mono B5.out.size))
  have O6 := hidyb_ ((O5.out.below hb6 (Nat.le_refl _)).lower (show 0 ≤ _ by omega))
  rw [hw6]
  have g5l : g5 < w6.heap.size := (World.ownsRow.lt O6.out g5 rfl).2
  have CK : Hid (∀ W, Below w6.heap.size w6 W → ∀ j, j < (rowOf K).size → W.cell? ⟨v, 1 + j, none⟩ = (rowOf K)[j]?) := hidyb_ (fun W hW j hj => by
    rw [hW.cell (p := ⟨v, 1 + j, none⟩) V6.out.lt, V6.out.cell (1 + j)]
    exact vrow_k id K KL.out _ _ _ j (by rw [rowOf_size, KL.out] at hj; exact hj))
  have CN : Hid (∀ W, Below w6.heap.size w6 W → ∀ j, j < (rowOf (nonceB kind ord)).size → W.cell? ⟨g5, 0 + j, none⟩ = (rowOf (nonceB kind ord))[j]?) := hidyb_ (fun W hW j hj => by
    rw [rowOf_size, NL.out] at hj
    have hz := O6.out.cellz j (by rw [NL.out] at *; exact hj)
    rw [hW.cell (p := ⟨g5, 0 + j, none⟩) g5l, Nat.zero_add, hz, rowOf_at _ _ (by rw [NL.out]; exact hj)])
  have DD := hidyb_ (show highB 8 ord ++ streamB K (nonceB kind ord) 0 (zbytes n) = drawB K kind ord n from rfl)
  have O8L := hidyb_ (highB_len 8 ord)
  have SL := hidyb_ (show (streamB K (nonceB kind ord) 0 (zbytes n)).length = n by rw [streamB_len, zbytes_len])
  obtain ⟨D0, hD⟩ : ∃ D, drawB K kind ord n = D := ⟨_, rfl⟩
  obtain ⟨Sm, hS⟩ : ∃ D, streamB K (nonceB kind ord) 0 (zbytes n) = D := ⟨_, rfl⟩
  obtain ⟨No, hNo⟩ : ∃ D, nonceB kind ord = D := ⟨_, rfl⟩
  obtain ⟨o8, ho8⟩ : ∃ D, highB 8 ord = D := ⟨_, rfl⟩
  obtain ⟨K0, hK0⟩ : ∃ D, K = D := ⟨_, rfl⟩
  obtain ⟨gz, hgz⟩ : ∃ D, w5.heap.size = D := ⟨_, rfl⟩
  obtain ⟨g0, hg0⟩ : ∃ D, w.heap.size = D := ⟨_, rfl⟩
  obtain ⟨g6, hg6⟩ : ∃ D, w6.heap.size = D := ⟨_, rfl⟩
  have G0 := hidyb_ hg0
  have G6 := hidyb_ hg6
  have O6' := O6.out
  clear c1 c2 hw1 hw2 hw3 hw4 hmk hvl P2 V2 B2 P3 P23 V3 B3 O5 P5 V5 hb6 hw6 O6
  have SM := hidyb_ hS
  rw [hS] at DD SL
  rw [hD] at DD
  rw [hNo] at SM NL I12 CN O6'
  rw [ho8] at DD O8L P6
  simp only [hK0] at *
  have HD := hidyb_ hD
  have Z6l : gz < g6 := by have h := Z6.out.lt; rw [hgz, hg6] at h; exact h
  have P6l : g0 < g6 := by have h := P6.out.lt; rw [hg0, hg6] at h; exact h
  rw [hgz] at Z6 ⊢
  rw [hg0] at P6 B6 ⊢
  rw [hg6] at CK CN
  refine region_byF [24, 25, 26, 27, 28, 29, 30, 31, 32, 33, 34, 35, 8] (fun W => Below g6 w6 W) (fun W W' => Below W.heap.size W W') (DrR v g0 g5 c5 gz n g6 K0 No o8 Sm D0) (by kernel_rfl) (by kernel_rfl) (by kernel_rfl) (by kernel_rfl) (fun j v w w' hT hr => ?_) (fun j v w hlt hj _ => ?_) (by rw [← hg6]; exact (Below.refl _ _).drew) ?_ ?_
  · exact DrR.stable hT j v hr
  · rcases j with _ | _ | _ | _ | _ | _ | _ | _ | _ | _ | _ | _ | _ | j
    all_goals first
      | (exfalso; simp [dstOf] at hj; done)
      | trivial
  · refine ⟨fun a W hC hd hf hv K hK => ?_, fun a W hC hd hf hv K hK => ?_, fun a W hC hd hf hv K hK => ?_, fun a W hC hd hf hv K hK => ?_, fun a W hC hd hf hv K hK => ?_, fun a W hC hd hf hv K hK => ?_, fun a W hC hd hf hv K hK => ?_, fun a W hC hd hf hv K hK => ?_, fun a W hC hd hf hv K hK => ?_, fun a W hC hd hf hv K hK => ?_, fun a W hC hd hf hv K hK => ?_, fun a W hC hd hf hv K hK => ?_, fun a W hC hd hf hv K hK => ?_, trivial⟩
    · have e1 := slot_of (a := a) (s := 9) (v := .slice (some ⟨g0, 0, none⟩) 8 8) (hf 9 (by kernel_rfl))
      refine step_run (wanted_none rfl) (v := .slice (some ⟨g0, 0, none⟩) 8 8) (w' := W) ?_ (hK _ _ hC (Below.refl _ _) rfl)
      go_simp
    · have e1 := slot_of (a := a) (s := 0) (v := .pointer (some ⟨v, 0, none⟩)) (hf 0 (by kernel_rfl))
      refine step_run (wanted_none rfl) (v := .pointer (some ⟨v, 0, none⟩)) (w' := W) ?_ (hK _ _ hC (Below.refl _ _) rfl)
      go_simp
    · have e1 := slot_of (a := a) (s := 25) (v := .pointer (some ⟨v, 0, none⟩)) (hv 1 (by kernel_rfl))
      refine step_run (wanted_none rfl) (v := .pointer (some ⟨v, 0, none⟩)) (w' := W) ?_ (hK _ _ hC (Below.refl _ _) rfl)
      go_simp
    · have e1 := slot_of (a := a) (s := 26) (v := .pointer (some ⟨v, 0, none⟩)) (hv 2 (by kernel_rfl))
      refine step_run (wanted_none rfl) (v := .pointer (some ⟨v, 1, none⟩)) (w' := W) ?_ (hK _ _ hC (Below.refl _ _) rfl)
      go_simp
    · have e1 := eval_of (a := a) (s := 27) (v := .pointer (some ⟨v, 1, none⟩)) (hv 3 (by kernel_rfl))
      exact step_load_sub (wanted_none rfl) 22 (.tmp 27) rfl v 1 e1 (rowOf K0) (CK.out W hC) _ Tryd.underlying22 rfl I32.out (hK _ _ hC (Below.refl _ _) rfl)
    · have e1 := slot_of (a := a) (s := 10) (v := .slice (some ⟨g5, 0, none⟩) 12 c5) (hf 10 (by kernel_rfl))
      refine step_run (wanted_none rfl) (v := .slice (some ⟨g5, 0, none⟩) 12 c5) (w' := W) ?_ (hK _ _ hC (Below.refl _ _) rfl)
      go_simp
    · have e1 := slot_of (a := a) (s := 29) (v := .slice (some ⟨g5, 0, none⟩) 12 c5) (hv 5 (by kernel_rfl))
      refine step_run (wanted_none rfl) (v := .pointer (some ⟨g5, 0, none⟩)) (w' := W) ?_ (hK _ _ hC (Below.refl _ _) rfl)
      go_simp
    · have e1 := eval_of (a := a) (s := 30) (v := .pointer (some ⟨g5, 0, none⟩)) (hv 6 (by kernel_rfl))
      exact step_load_sub (wanted_none rfl) 54 (.tmp 30) rfl g5 0 e1 (rowOf No) (CN.out W hC) _ Tryd.underlying54 rfl I12.out (hK _ _ hC (Below.refl _ _) rfl)
    · have e1 := slot_of (a := a) (s := 11) (v := .slice (some ⟨gz, 0, none⟩) n n) (hf 11 (by kernel_rfl))
      refine step_run (wanted_none rfl) (v := .slice (some ⟨gz, 0, none⟩) n n) (w' := W) ?_ (hK _ _ hC (Below.refl _ _) rfl)
      go_simp
    · have e1 := slot_of (a := a) (s := 28) (v := .agg (rowOf K0)) (hv 4 (by kernel_rfl))
      have e2 := slot_of (a := a) (s := 31) (v := .agg (rowOf No)) (hv 7 (by kernel_rfl))
      have e3 := slot_of (a := a) (s := 32) (v := .slice (some ⟨gz, 0, none⟩) n n) (hv 8 (by kernel_rfl))
      have hz := (Z6.out.below hC Z6l)
      have cs := stream_any K0 No 0 (some ⟨gz, 0, none⟩) n n (zbytes n) W KL.out NL.out ok32_zeroq (zbytes_len n) (hz.rd hz.lt) (Nat.le_refl _) (by omega) (by omega)
      rw [SM.out] at cs
      refine step_callx 27 #[.agg (rowOf K0), .int .u32 0, .agg (rowOf No), .slice (some ⟨gz, 0, none⟩) n n] (wanted_none rfl) (w' := W) ?_ (cs.mono fun e W2 hh => ?_)
      · go_simp
      · obtain ⟨A, c, rfl, ho, hb⟩ := hh
        exact ⟨_, rfl, hK _ _ (hC.trans (hb.mono (G6.out ▸ hC.size))) hb ⟨A, c, rfl, ho.rd.1⟩⟩
    · obtain ⟨A, c, eA, hA⟩ : ∃ A c, a.tmps.getD 33 undef = .slice A n c ∧ Rd W W.heap.size A Sm := hv 9 (by kernel_rfl)
      have e1 := slot_of (a := a) (s := 24) (v := .slice (some ⟨g0, 0, none⟩) 8 8) (hv 0 (by kernel_rfl))
      have e2 := slot_of (a := a) (s := 33) eA
      have hp := (P6.out.below hC P6l)
      have hcat := cat_rd W (some ⟨g0, 0, none⟩) A 8 n 8 c o8 Sm (hp.rd hp.lt) hA O8L.out SL.out
      have hbl := (Below.refl W.heap.size W).alloc (Nat.le_refl _) (.cells #[.slice (some ⟨g0, 0, none⟩) 8 8, .slice A n c] 29)
      refine step_run (wanted_none rfl) (v := .slice (some ⟨W.heap.size, 0, none⟩) 2 2) (w' := W.alloc (.cells #[.slice (some ⟨g0, 0, none⟩) 8 8, .slice A n c] 29)) ?_ (hK _ _ (hC.trans (hbl.mono (G6.out ▸ hC.size))) hbl ⟨W.heap.size, A, c, rfl, hcat⟩)
      go_simp
    · obtain ⟨q, A, c, eq, hq⟩ : ∃ q A c, a.tmps.getD 34 undef = .slice (some ⟨q, 0, none⟩) 2 2 ∧ CatAt W W.heap.size q [(some ⟨g0, 0, none⟩, 8, o8), (A, c, Sm)] := hv 10 (by kernel_rfl)
      have e1 := slot_of (a := a) (s := 34) eq
      have cc := concat_any q 2 2 (8 + n) [(some ⟨g0, 0, none⟩, 8, o8), (A, c, Sm)] W rfl (by simp [flat, O8L.out, SL.out]) hq (by omega) (by omega)
      rw [show flat [((some ⟨g0, 0, none⟩ : Option Addr), 8, o8), (A, c, Sm)] = D0 by simp [flat]; exact DD.out] at cc
      refine step_callx 26 #[.slice (some ⟨q, 0, none⟩) 2 2] (wanted_none rfl) (w' := W) ?_ (cc.mono fun e W2 hh => ?_)
      · go_simp
      · obtain ⟨A5, c5, rfl, ho, hb⟩ := hh
        exact ⟨_, rfl, hK _ _ (hC.trans (hb.mono (G6.out ▸ hC.size))) hb ⟨A5, c5, rfl, ho.lower (G6.out ▸ hC.size)⟩⟩
    · obtain ⟨A, c, eA, hA⟩ : ∃ A c, a.tmps.getD 35 undef = .slice A (8 + n) c ∧ Own8 W g6 (.slice A (8 + n) c) D0 := hv 11 (by kernel_rfl)
      have e1 := slot_of (a := a) (s := 35) eA
      refine step_run (wanted_none rfl) (v := .slice A (8 + n) c) (w' := W) ?_ (hK _ _ hC (Below.refl _ _) ⟨A, c, rfl, hA⟩)
      go_simp
  · intro f w7 hC7 hv7
    obtain ⟨A, c, e8, hO⟩ : ∃ A c, f 8 = .slice A (8 + n) c ∧ Own8 w7 g6 (.slice A (8 + n) c) D0 := hv7 12 (by decide)
    have HO := hidyb_ hO
    have HB := hidyb_ hC7
    simp only [framed, List.foldl_cons, List.foldl_nil, List.setIfInBounds_toArray, List.set_cons_succ, List.set_cons_zero]
    rw [e8]
    clear hv7 hC7 hO
    refine hK9 _ _ ?_
    go_wp2
    go_ret
    have hs6 : g0 ≤ g6 := by have h1 := B6.out.size; rw [G0.out, G6.out] at h1; exact h1
    exact ⟨A, c, rfl, by rw [G0.out, HD.out]; exact HO.out.lower hs6, by rw [G0.out]; exact B6.out.trans (HB.out.mono hs6)⟩
end Go.Proofs.YtoeofifibjelnaaDoor
