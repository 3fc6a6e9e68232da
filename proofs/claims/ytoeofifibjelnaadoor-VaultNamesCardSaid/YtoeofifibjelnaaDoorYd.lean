/-
  The ordinal of a name: one that was asked for, and a new one.
-/
import Derived.Test.YtoeofifibjelnaaDoorYc
namespace Go.Proofs.YtoeofifibjelnaaDoor
set_option maxRecDepth 100000
open Go.RowKit Go.Maps Go.ChangeMaps Go.MapKept
set_option linter.unusedVariables false
set_option linter.unusedSimpArgs false

section
variable {ops : Array Oper} {rest : List Oper} {o : Oper} {a : Act} {w : World} {Q : Exit → Act → World → Prop}
/-- A store at a new key. -/
theorem wpList_storeM (hg : o.guard = none) (m x y : Operand) (t : TypeId) (hop : o.op = Op.mapUpdate t m x y) (k e : TypeId) (K : Keyed Tryd.prog k) (ht : Tryd.prog.underlying t = some (.map k e))
    (b n : Nat) (f : Value → Option Value) (hm : a.eval m = .map (some b)) (h : MapIs w k b n f) (hn : n < maxLen) (key val : Value) (kl : Lit) (hx : a.eval x = key) (hv : a.eval y = val) (hkey : keyOf Tryd.prog k key = some kl) (hnew : f key = none)
    (hK : ∀ w', MapIs w' k b (n + 1) (upd f key val) → w.mapTurned w' b → wpList Tryd.prog ops Q rest (a.put o.dst undef) w') : wpList Tryd.prog ops Q (o :: rest) a w := by
  refine wpList_plain hg fun K' hK' => ?_
  obtain ⟨w', hrun, r1, r2⟩ := h.store K ht hn hkey hnew (val := val)
  unfold Oper.wp
  simp [execOp, hop, hm, hx, hv, hrun, Result.andThen]
  exact hK' _ _ (hK w' r1 r2)
end
section
variable {w w' : World} {v sp nm kn : Nat} {K : List UInt8} {N : List (List UInt8)} {S : List (Nat × Nat)} {L : List SealV} {F : List Nat}
theorem turned_heap {b : Nat} (ht : w.mapTurned w' b) (k : Nat) (hk : k ≠ b) : w'.heap[k]? = w.heap[k]? := by
  obtain ⟨es, clock, es', clock', hb, rfl⟩ := ht
  exact heap_setBlock_other hb _ hk
theorem turned_size {b : Nat} (ht : w.mapTurned w' b) : w'.heap.size = w.heap.size := by
  obtain ⟨es, clock, es', clock', hb, rfl⟩ := ht
  simp [setBlock]
theorem InF.turned {b : Nat} (ht : w.mapTurned w' b) {A : Option Addr} {l : List UInt8} (h : InF w F A l) : InF w' F A l := fun hn => by
  obtain ⟨g, off, e, hb, hlt, ⟨cs, ty, fz, hc0⟩, hc⟩ := h hn
  have hne : g ≠ b := by
    obtain ⟨es, clock, es', clock', h0, -⟩ := ht
    rintro rfl
    rw [h0] at hc0
    cases hc0
  have hh := turned_heap ht g hne
  exact ⟨g, off, e, hb, by rw [turned_size ht]; exact hlt, ⟨cs, ty, fz, hh.trans hc0⟩, fun j hj => (heap_cell hh _).trans (hc j hj)⟩
theorem KnIs.turned {b : Nat} {f : Value → Option Value} (ht : w.mapTurned w' b) (h : KnIs w F f L) : KnIs w' F f L := ⟨fun t h1 => by
    obtain ⟨A, c, e1, e2, e3, e4⟩ := h.all t h1
    exact ⟨A, c, e1, e2, e3, e4.turned ht⟩, h.only⟩
theorem Bk.turned {b g : Nat} {t : TypeId} {cs : Array Value} (h : Bk w g t cs) (ht : w.mapTurned w' b) : Bk w' g t cs := by
  refine (turned_heap ht g ?_).trans h
  obtain ⟨es, clock, es', clock', h0, -⟩ := ht
  rintro rfl
  have := h0.symm.trans h
  cases this
theorem VltI.named (h : VltI w v sp nm kn K N S L F) (ht : w.mapTurned w' nm) {N' : List (List UInt8)} (hN : MapIs w' 9 nm N'.length (fN N')) : VltI w' v sp nm kn K N' S L F := by
  obtain ⟨n, f, h1, h2, h3⟩ := h.known
  exact ⟨h.blk.turned ht, h.spent.keep (turned_heap ht sp h.ne1), hN, ⟨n, f, h1, h2.keep (turned_heap ht kn (Ne.symm h.ne3)), h3.turned ht⟩, h.len, h.ne1, h.ne2, h.ne3, h.inv, h.ins, h.inn, h.ink, h.lts, fun k hk => by rw [turned_size ht]; exact h.hF k hk⟩
theorem Untouched.turned {b : Nat} (ht : w.mapTurned w' b) (hb : b ∈ F) : Untouched F w w' := .of_grown ht.grown (fun k e => by injection e with e; subst e; exact hb)
end
/-- What a vault's call leaves of an ideal one. -/
def LeavesI (w w' : World) (v sp nm kn : Nat) (K : List UInt8) (N : List (List UInt8)) (S : List (Nat × Nat)) (L : List SealV) (F F' : List Nat) : Prop :=
  VltI w' v sp nm kn K N S L F' ∧ Grew w F F' ∧ Untouched F w w'
theorem z64i (W : World) : (zeroValue 3).run Tryd.prog W = .ok (.int .i64 0) W := by kernel_rfl

set_option maxRecDepth 100000 in
set_option maxHeartbeats 2000000 in
theorem ordinal_any {w : World} {v sp nm kn : Nat} {K : List UInt8} {N : List (List UInt8)} {S : List (Nat × Nat)} {L : List SealV} {F : List Nat} (h : VltI w v sp nm kn K N S L F) (A : Option Addr) (n c : Nat) (name : List UInt8) (hn : name.length = n) (hr : Rd w w.heap.size A name) (hn64 : n ≤ 1000000) (hN : N.length ≤ 1000000) :
    Calls Tryd.prog 18 #[.pointer (some ⟨v, 0, none⟩), .slice A n c] w fun e w' => e = .returned (.int .i64 ((ordN N name : Nat) : Int)) ∧ LeavesI w w' v sp nm kn K (addNm N name) S L F F := by
  have hlk := fun W (hW : Below w.heap.size w W) => ((h.below hW).names).look keyed9 Tryd.underlying47 (z64i W) (key9 name (by omega))
  have CM : Hid (∀ W, Below w.heap.size w W → W.cell? ⟨v, 34, none⟩ = some (.map (some nm))) := hidyb_ (fun W hW => ((h.below hW).blk.cell 34).trans (vrow_34 true K h.len _ _ _))
  have CV : Hid (∀ W, Below w.heap.size w W → (convert 29 9 (.slice A n c)).run Tryd.prog W = .ok (.string (strOf name)) W) := hidyb_ (fun W hW => conv_strn (hr.below hW) n c hn)
  have HV := hidyb_ h
  by_cases hm : name ∈ N
  · have hlk2 := fun W hW => (hlk W hW).trans (by rw [fN_yes hm])
    have LK := hidyb_ hlk2
    have HM : Hid (addNm N name = N) := hidyb_ (by unfold addNm; rw [if_pos hm])
    clear hlk hlk2 h hr hm hn
    generalize ordN N name = q at *
    go_enter Tryd.func18, Tryd.ntmps18
    go_upto_region 1 with fail
    rename_i K9 hK9
    refine region_quiet_in (C := fun W => Below w.heap.size w W) (by kernel_rfl) (by kernel_rfl) ((Below.refl _ _).drew) ?_
    repeat (go_big_quiet_want; (first
      | (refine BigFrame.quiet_move _ rfl ?_; go_simp)
      | (refine BigFrame.quiet_assign _ rfl ?_; go_simp)
      | (refine quiet_run (.pointer (some ⟨v, 0, none⟩)) ?_ ?_; (focus (intro W hW; go_simp; done)); go_simp)
      | (refine quiet_run (.pointer (some ⟨v, 34, none⟩)) ?_ ?_; (focus (intro W hW; go_simp; done)); go_simp)
      | (refine quiet_run (.map (some nm)) ?_ ?_; (focus (intro W hW; have h := CM.out W hW; go_simp; done)); go_simp)
      | (refine quiet_run (.string (strOf name)) ?_ ?_; (focus (intro W hW; have h := CV.out W hW; go_simp; done)); go_simp)
      | (refine quiet_run (.tuple #[.int .i64 ((q : Nat) : Int), .bool true]) ?_ ?_; (focus (intro W hW; have h := LK.out W hW; go_simp; done)); go_simp)
      | (refine quiet_run (.int .i64 ((q : Nat) : Int)) ?_ ?_; (focus (intro W hW; go_simp; done)); go_simp)
      | (refine quiet_run (.bool true) ?_ ?_; (focus (intro W hW; go_simp; done)); go_simp)); go_big_quiet_on)
    refine wpQuiet_nil ?_
    intro w7 hw7
    have HB := hidyb_ hw7
    clear hw7
    refine hK9 _ _ ?_
    go_wp2
    go_ret
    exact ⟨rfl, by rw [HM.out]; exact ⟨HV.out.below HB.out, Grew.refl _ _, .of_below HB.out⟩⟩
  · have hlk2 := fun W hW => (hlk W hW).trans (by rw [fN_no hm])
    have LK := hidyb_ hlk2
    have HM : Hid (addNm N name = N ++ [name]) := hidyb_ (by unfold addNm; rw [if_neg hm])
    have HQ := hidyb_ (ordN_new hm)
    have HF := hidyb_ (fN_no hm)
    have HS := hidyb_ (fN_snoc hm)
    have KK := hidyb_ (key9 name (by omega))
    have hl := fun W (hW : Below w.heap.size w W) => ((h.below hW).names).len Tryd.underlying47
    have LN := hidyb_ hl
    have hi : IntKind.i64.wrap ((N.length : Int) + 1) = (N.length : Int) + 1 := IntWalk.i64_in _ (by omega)
    clear hlk hlk2 h hr hm hn hl
    rw [HQ.out]
    go_enter Tryd.func18, Tryd.ntmps18
    go_upto_region 1 with fail
    rename_i K9 hK9
    refine region_quiet_in (C := fun W => Below w.heap.size w W) (by kernel_rfl) (by kernel_rfl) ((Below.refl _ _).drew) ?_
    repeat (go_big_quiet_want; (first
      | (refine BigFrame.quiet_move _ rfl ?_; go_simp)
      | (refine BigFrame.quiet_assign _ rfl ?_; go_simp)
      | (refine quiet_run (.pointer (some ⟨v, 0, none⟩)) ?_ ?_; (focus (intro W hW; go_simp; done)); go_simp)
      | (refine quiet_run (.pointer (some ⟨v, 34, none⟩)) ?_ ?_; (focus (intro W hW; go_simp; done)); go_simp)
      | (refine quiet_run (.map (some nm)) ?_ ?_; (focus (intro W hW; have h := CM.out W hW; go_simp; done)); go_simp)
      | (refine quiet_run (.string (strOf name)) ?_ ?_; (focus (intro W hW; have h := CV.out W hW; go_simp; done)); go_simp)
      | (refine quiet_run (.tuple #[.int .i64 0, .bool false]) ?_ ?_; (focus (intro W hW; have h := LK.out W hW; go_simp; done)); go_simp)
      | (refine quiet_run (.int .i64 0) ?_ ?_; (focus (intro W hW; go_simp; done)); go_simp)
      | (refine quiet_run (.bool false) ?_ ?_; (focus (intro W hW; go_simp; done)); go_simp)); go_big_quiet_on)
    refine wpQuiet_nil ?_
    intro w7 hw7
    have HB := hidyb_ hw7
    have cm := CM.out w7 hw7
    have ln := LN.out w7 hw7
    clear hw7
    refine hK9 _ _ ?_
    go_upto_region 4 with fail
    clear cm ln
    rename_i K8 hK8
    refine region_quiet_tail (C := fun W => Below w.heap.size w W) 7 (by kernel_rfl) (by kernel_rfl) (HB.out.drew) ?_
    simp only [List.take_succ_cons, List.take_zero]
    repeat (go_big_quiet_want; (first
      | (refine BigFrame.quiet_move _ rfl ?_; go_simp)
      | (refine quiet_run (.pointer (some ⟨v, 0, none⟩)) ?_ ?_; (focus (intro W hW; go_simp; done)); go_simp)
      | (refine quiet_run (.pointer (some ⟨v, 34, none⟩)) ?_ ?_; (focus (intro W hW; go_simp; done)); go_simp)
      | (refine quiet_run (.map (some nm)) ?_ ?_; (focus (intro W hW; have h := CM.out W hW; go_simp; done)); go_simp)
      | (refine quiet_run (.string (strOf name)) ?_ ?_; (focus (intro W hW; have h := CV.out W hW; go_simp; done)); go_simp)); go_big_quiet_on)
    refine wpQuiet_nil ?_
    intro w8 hw8
    simp only [List.drop_succ_cons, List.drop_zero]
    have V8 := HV.out.below hw8
    refine wpList_storeM rfl (.tmp 28) (.tmp 30) (.tmp 31) 47 rfl 9 3 keyed9 Tryd.underlying47 nm N.length (fN N) rfl V8.names (by unfold maxLen; omega) (.string (strOf name)) (.int .i64 ((N.length + 1 : Nat) : Int)) _ rfl rfl KK.out HF.out ?_
    intro w9 hm9 ht9
    rw [HS.out] at hm9
    have V9 := hidyb_ (V8.named (N' := N ++ [name]) ht9 (by rw [List.length_append]; exact hm9))
    have U9 := hidyb_ ((Untouched.of_below (F := F) hw8).trans (Grew.refl _ _) (Untouched.turned ht9 V8.inn))
    clear hw8 V8 hm9 ht9
    refine hK8 _ _ ?_
    go_wp2
    go_ret
    exact ⟨by simp, by rw [HM.out]; exact ⟨V9.out, Grew.refl _ _, U9.out⟩⟩
end Go.Proofs.YtoeofifibjelnaaDoor
