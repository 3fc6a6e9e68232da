/-
  Proved: for every key, counter, nonce and number ChachaCounts answers true: the blocks of rising counters, one behind the other, are the stream. No condition.
-/
import Derived.Test.YtilgpblfdfhioaaK9
import Derived.Test.YtilgpblfdfhioaaK6
import Derived.Test.YtilgpblfdfhioaaOb
namespace Go.Proofs.Ytilgpblfdfhioaa.chachaCounts
open Go.ChangeShapes Go.WideShapes Go.ChangeAt Go.RowKit
set_option linter.unusedVariables false
set_option linter.unusedSimpArgs false

theorem hid_ {p : Prop} (h : p) : Hid p := h
theorem u64_nat (z : Int) : ∃ x : Nat, IntKind.u64.wrap z = (x : Int) ∧ x ≤ 18446744073709551615 := by
  have h : IntKind.u64.wrap z = z % 18446744073709551616 := by simp [IntKind.wrap, IntKind.signed, IntKind.bits]
  rw [h]
  exact ⟨(z % 18446744073709551616).toNat, by omega, by omega⟩
/-- The first k blocks. -/
def catB (key nonce : List UInt8) (c : Int) : Nat → List UInt8
  | 0 => []
  | k + 1 => catB key nonce c k ++ blockB key (ctrN c k) nonce
theorem catB_len (key nonce : List UInt8) (c : Int) (k : Nat) : (catB key nonce c k).length = 64 * k := by
  induction k with
  | zero => rfl
  | succ k ih => rw [catB, List.length_append, ih, blockB_len]; omega
theorem mix_zero : ∀ (l : List UInt8) (n : Nat), l.length ≤ n → mixB (List.replicate n 0) l = l
  | [], n, _ => by simp [mixB]
  | a :: l, 0, h => by simp at h
  | a :: l, n + 1, h => by
    have ih := mix_zero l n (by simpa using h)
    show (0 ^^^ a) :: mixB (List.replicate n 0) l = a :: l
    rw [ih, UInt8.zero_xor]
theorem soFar_zero (key nonce : List UInt8) (c : Int) (m k : Nat) (h : 64 * k ≤ m) : soFar key nonce c (List.replicate m 0) k = catB key nonce c k := by
  induction k with
  | zero => rfl
  | succ k ih =>
    rw [soFar, catB, ih (by omega), List.drop_replicate, mix_zero _ _ (by rw [blockB_len]; omega)]
theorem stream_zero (key nonce : List UInt8) (c : Int) (n : Nat) : streamB key nonce c (List.replicate (64 * n) 0) = catB key nonce c n := by
  rw [streamB, List.length_replicate, show (64 * n + 63) / 64 = n by omega, soFar_zero _ _ _ _ _ (Nat.le_refl _)]

theorem atRow_zero (c : Int) (nonce : List UInt8) : (atRow c nonce)[0]? = some (.int .u32 c) := by
  unfold atRow
  rw [Array.getElem?_append_left (by simp)]
  rfl
theorem atRow_next (c : Int) (nonce : List UInt8) (j : Nat) : (atRow c nonce)[1 + j]? = (rowOf nonce)[j]? := by
  simp [atRow, Array.getElem?_append, Nat.add_comm 1 j]

theorem step_load_sub {P : Program} {ops : Array Oper} {o : Oper} {a : Act} {w : World} {K : Act → World → Prop} {Q : Exit → Act → World → Prop} {E : Prop} (hwt : Region.wanted o (yielded ops a.tmps) = true) (ty : TypeId) (x : Operand) (ho : o.op = .load ty x)
    (g off : Nat) (hx : a.eval x = .pointer (some ⟨g, off, none⟩)) (cs : Array Value) (hc : ∀ j, j < cs.size → w.cell? ⟨g, off + j, none⟩ = cs[j]?) (d : TypeDesc)
    (hu : P.underlying ty = some d) (hd : (match d with | .struct _ | .array _ _ => true | _ => false) = true) (hi : (P.info? ty).map (·.size) = some cs.size)
    (h : K (a.put o.dst (.agg cs)) w) : if Region.wanted o (yielded ops a.tmps) = true then Oper.wp P o a w K Q else E := by
  have hl : (loadCells ⟨g, off, none⟩ cs.toList.length).run P w = .ok cs.toList.toArray w :=
    run_loadCells_list (P := P) w ⟨g, off, none⟩ cs.toList (fun j v hv => by
      have hadd : (⟨g, off, none⟩ : Addr).add j = ⟨g, off + j, none⟩ := by unfold Addr.add; split <;> simp_all
      have hj : j < cs.size := by
        have := (List.getElem?_eq_some_iff.1 hv).1
        simpa using this
      rw [hadd, hc j hj]
      simpa using hv)
  have hrun : (loadVar ty ⟨g, off, none⟩).run P w = .ok (.agg cs) w := by
    cases hq : P.info? ty with
    | none => simp [hq] at hi
    | some i =>
      have hs : i.size = cs.size := by simpa [hq] using hi
      have hagg : (isAgg ty).run P w = .ok true w := by
        unfold isAgg
        rw [Sem.run_bind, run_underlying hu w]
        cases d <;> simp_all
      simp only [Array.length_toList, Array.toArray_toList] at hl
      simp [loadVar, Sem.run_bind, hagg, sizeOf, typeInfo, hq, hs, hl]
  rw [if_pos hwt]
  unfold Oper.wp execOp
  simp only [ho, hx, Instr.loadAt, Instr.sureAddr, Sem.run_bind, Sem.run_pure, Result.andThen_ok, hrun]
  exact h

theorem step_callx {P : Program} {ops : Array Oper} {o : Oper} {a : Act} {w w' : World} {K : Act → World → Prop} {Q : Exit → Act → World → Prop} {E : Prop} (f : FuncId) (args : Array Value) (hw : Region.wanted o (yielded ops a.tmps) = true) (h : (execOp a.eval o).run P w = .ok (.enter f args) w') (hc : Calls P f args w' fun e w2 => ∃ v, e = .returned v ∧ K (a.put o.dst v) w2) : if Region.wanted o (yielded ops a.tmps) = true then Oper.wp P o a w K Q else E := by
  rw [if_pos hw]
  unfold Oper.wp
  rw [h]
  exact hc.mono fun e w2 hh => by
    obtain ⟨v, rfl, hk⟩ := hh
    exact hk
/-- What each operation of the last line leaves. -/
def CoR (g n : Nat) (key nonce : List UInt8) (c : Int) (Av : Option Addr) (cv : Nat) (cat : List UInt8) : Nat → Value → World → Prop
  | 2, v, _ => v = .agg (rowOf key)
  | 3, v, _ => v = .pointer (some ⟨g + 1, 0, none⟩)
  | 4, v, _ => v = .int .u32 c
  | 5, v, _ => v = .pointer (some ⟨g + 1, 1, none⟩)
  | 6, v, _ => v = .agg (rowOf nonce)
  | 7, v, _ => v = .int .i64 (n : Int)
  | 8, v, _ => v = .int .i64 (64 * (n : Int))
  | 9, v, w => ∃ q, v = .slice (some ⟨q, 0, none⟩) (64 * n) (64 * n) ∧ Blk8 w q (List.replicate (64 * n) 0)
  | 10, v, w => ∃ A d, v = .slice A (64 * n) d ∧ Rd w w.heap.size A cat
  | 11, v, _ => v = .string (strOf cat)
  | 12, v, _ => v = .slice Av (64 * n) cv
  | 13, v, _ => v = .string (strOf cat)
  | _, v, _ => v = .bool true
def CoC (g : Nat) (key nonce : List UInt8) (c : Int) (Av : Option Addr) (cat : List UInt8) (w0 w : World) : Prop := Bk w g 27 (rowOf key) ∧ Bk w (g + 1) 35 (atRow c nonce) ∧ Rd w w.heap.size Av cat ∧ Below w0.heap.size w0 w
theorem CoC.below {g : Nat} {key nonce : List UInt8} {c : Int} {Av : Option Addr} {cat : List UInt8} {w0 w w' : World} (h : CoC g key nonce c Av cat w0 w) (hb : Below w.heap.size w w') : CoC g key nonce c Av cat w0 w' :=
  ⟨h.1.below hb h.1.lt, h.2.1.below hb h.2.1.lt, (h.2.2.1.below hb).more hb.size, h.2.2.2.trans (hb.mono h.2.2.2.size)⟩
theorem CoR.below {g n : Nat} {key nonce : List UInt8} {c : Int} {Av : Option Addr} {cv : Nat} {cat : List UInt8} (j : Nat) (v : Value) (w w' : World) (hb : Below w.heap.size w w') (h : CoR g n key nonce c Av cv cat j v w) : CoR g n key nonce c Av cv cat j v w' := by
  rcases j with _ | _ | _ | _ | _ | _ | _ | _ | _ | _ | _ | _ | _ | _ | j
  all_goals first
    | exact h
    | (obtain ⟨q, e, hg⟩ := h; exact ⟨q, e, hg.below hb hg.lt⟩)
    | (obtain ⟨A, d, e, hg⟩ := h; exact ⟨A, d, e, (hg.below hb).more hb.size⟩)

set_option maxRecDepth 100000 in
set_option maxHeartbeats 4000000 in
theorem walk (key nonce : List UInt8) (c z : Int) (w : World) (hk : key.length = 32) (hn : nonce.length = 12) (hc : ok32 c) :
    Calls Try.prog 7 #[.agg (rowOf key), .agg (atRow c nonce), .int .i64 z] w fun e w' => e = .returned (.bool true) ∧ Below w.heap.size w w' := by
  have hzb := zb64
  obtain ⟨x, hx, hxb⟩ := u64_nat z
  obtain ⟨n, hnn⟩ : ∃ k : Nat, Hid (x % 5 = k) := ⟨_, rfl⟩
  have hn5 : n < 5 := by have := hnn.out; omega
  have hxn : (x : Int) % 5 = (n : Int) := by have := hnn.out; omega
  obtain ⟨g, hg⟩ : ∃ g, Hid (w.heap.size = g) := ⟨_, rfl⟩
  have hgl : g ≤ w.heap.size := by rw [hg.out]; exact Nat.le_refl _
  obtain ⟨w0, hw0⟩ : ∃ W, Hid ((w.alloc (.cells (rowOf key) 27)).alloc (.cells (atRow c nonce) 35) = W) := ⟨_, rfl⟩
  have HK : Hid (Bk w0 g 27 (rowOf key)) := hid_ (by rw [← hw0.out, ← hg.out]; exact (Bk.new w _ _).alloc _)
  have HN : Hid (Bk w0 (g + 1) 35 (atRow c nonce)) := hid_ (by
    have h := Bk.new (w.alloc (.cells (rowOf key) 27)) 35 (atRow c nonce)
    rw [← hw0.out, ← hg.out]
    simpa using h)
  have HR : Hid (Below g w w0) := hid_ (by rw [← hw0.out, ← hg.out]; exact ((Below.refl _ _).alloc (Nat.le_refl _) _).alloc (by simp) _)
  have HS0 : Hid (w0.heap.size = g + 1 + 1) := hid_ (by rw [← hw0.out, ← hg.out]; simp)
  have I32 := hid_ (ib32 key hk)
  have I12 := hid_ (ib12 nonce hn)
  have cb := fun k W => block_any key nonce (ctrN c k) W hk hn (ctrN_ok c k)
  have cs := fun A cap W hr hcap hcm => stream_any key nonce c A (64 * n) cap (List.replicate (64 * n) 0) W hk hn hc (by simp) hr hcap hcm (by omega)
  rw [stream_zero] at cs
  have HNL := hid_ hn
  have CLen := hid_ (catB_len key nonce c n)
  go_enter Try.func7, Try.ntmps7
  go_upto_region 1 with fail
  rw [hg.out, hw0.out]
  go_wp2
  go_loopw [7, 8] (fun v i wr => ∃ k : Nat, k ≤ n ∧ i = .int .i64 k ∧ Own8 wr (g + 1 + 1) v (catB key nonce c k) ∧ Bk wr g 27 (rowOf key) ∧ Bk wr (g + 1) 35 (atRow c nonce) ∧ Below g w wr) (fun _ i _ => n - (intOf i).toNat)
  case atStart => exact ⟨0, Nat.zero_le _, rfl, Own8.nil_ _ _, HK.out, HN.out, HR.out⟩
  case round =>
    obtain ⟨k, hkn, rfl, h1, h2, h3, h4⟩ := hrel
    obtain ⟨Av, cv, rfl, _⟩ := h1.form
    have hlt0 := h1.lt
    rw [catB_len] at h1 hlt0 ⊢
    have V := hid_ h1
    have KK := hid_ h2
    have NN := hid_ h3
    have RR := hid_ h4
    have HLT := hid_ hlt0
    clear h1 h2 h3 h4 hlt0 HK HN HR
    have lenv : Hid ((catB key nonce c k).length = 64 * k) := hid_ (catB_len key nonce c k)
    by_cases hlt : k < n
    · have hd : decide ((k : Int) < (n : Int)) = true := decide_eq_true (by omega)
      have cb1 := cb k wr
      have LB := hid_ (blockB_len key (ctrN c k) nonce)
      have HSN : Hid (catB key nonce c (k + 1) = catB key nonce c k ++ blockB key (ctrN c k) nonce) := hid_ rfl
      obtain ⟨bk, hbk⟩ : ∃ x, Hid (blockB key (ctrN c k) nonce = x) := ⟨_, rfl⟩
      rw [hbk.out] at cb1 LB HSN
      have hct : (c + (k : Int)) % 4294967296 = ctrN c k := rfl
      obtain ⟨cx, hcx⟩ : ∃ x, Hid (ctrN c k = x) := ⟨_, rfl⟩
      rw [hcx.out] at cb1 hct
      have EB := hid_ (ib64 bk LB.out)
      have SB : Hid ((rowOf (zbytes 64)).size = (rowOf bk).size) := hid_ (by rw [rowOf_size, rowOf_size, LB.out, zbytes_len])
      have cc0 := NN.out.cell 0
      rw [atRow_zero] at cc0
      have CS : Hid (∀ j, j < (rowOf nonce).size → wr.cell? ⟨g + 1, 1 + j, none⟩ = (rowOf nonce)[j]?) := hid_ (fun j _ => (NN.out.cell (1 + j)).trans (atRow_next c nonce j))
      have hc0 := hc.1
      have hc1 := hc.2
      go_upto_region 7 with (first
        | (refine wpList_load_row rfl 27 (.tmp 3) rfl g rfl 27 (rowOf key) (0, 0) _ KK.out Try.underlying27 rfl I32.out ?_)
        | (refine wpList_load_sub rfl 29 (.tmp 25) rfl (g + 1) 1 rfl (rowOf nonce) CS.out _ Try.underlying29 rfl I12.out ?_)
        | (go_at_call 27; ((with_reducible refine cb1.mono ?_); rintro e w2 ⟨rfl, g1⟩; have HB1 := hid_ g1; clear g1))
        | (refine wpList_put_row rfl 30 (.tmp 9) (.tmp 27) rfl w2.heap.size (rowOf bk) rfl rfl 30 (rowOf (zbytes 64)) (Bk.new w2 _ _) EB.out SB.out (bytes_one _) ?_; intro w3 k3 g3 s3))
      have Y1 := RR.out.trans (HB1.out.mono (by have := RR.out.size; omega))
      have hs1 := RR.out.size
      have hs2 := HB1.out.size
      have lN := NN.out.lt
      have K3 := hid_ (((KK.out.below HB1.out KK.out.lt).alloc (.cells (rowOf (zbytes 64)) 30)).grown g3 (by intro e; injection e with e; omega))
      have N3 := hid_ (((NN.out.below HB1.out NN.out.lt).alloc (.cells (rowOf (zbytes 64)) 30)).grown g3 (by intro e; injection e with e; omega))
      have Y3 := hid_ ((Y1.alloc (by omega) (.cells (rowOf (zbytes 64)) 30)).grown g3 (by simp; omega) (fun i hi => by injection hi with hi; omega))
      have V3 := hid_ ((((V.out.below HB1.out (Nat.le_refl _)).alloc (.cells (rowOf (zbytes 64)) 30))).kept g3 (by
        cases hq2 : (Value.slice Av (64 * k) cv).ownBlock with
        | none => exact .inl rfl
        | some i => exact .inr (fun e => by injection e with e; have := (HLT.out i hq2).2; omega)))
      have B3 := hid_ k3
      have hs3 : g + 1 + 1 ≤ w3.heap.size := by
        have h3 : w3.heap.size = w2.heap.size + 1 := by rw [s3]; simp
        omega
      obtain ⟨gb, hgb⟩ : ∃ x, Hid (w2.heap.size = x) := ⟨_, rfl⟩
      rw [hgb.out] at B3 ⊢
      have q5 := fun W => sl_all64 gb W
      clear k3 g3 s3 KK NN RR V HLT HB1 Y1 lN hs1 hs2 cc0 CS hct
      rename_i KK hKK
      go_wp2_with (at_builtin; refine wpList_app rfl (.tmp 28) (.tmp 29) rfl V3.out rfl 64 64 rfl (B3.out.rd B3.out.lt) LB.out ?_ ?_ ?_; (rw [lenv.out]; omega); (omega); (intro A5 c5 w5 k1 k2 k3; rw [lenv.out] at *))
      have K5 := K3.out.far_own k2 (fun i hi => (V3.out.lt i hi).1) (by omega)
      have N5 := N3.out.far_own k2 (fun i hi => (V3.out.lt i hi).1) (by omega)
      have Y5 := Y3.out.grown k2 (by have := Y3.out.size; omega) (fun i hi => by have := (V3.out.lt i hi).1; omega)
      refine ⟨⟨k + 1, by omega, by omega, by rw [HSN.out]; exact k1, K5, N5, Y5⟩, ?_⟩
      simp [intOf]
      omega
    · have hkn2 : k = n := by omega
      subst hkn2
      have hd : decide ((k : Int) < (k : Int)) = false := decide_eq_false (by omega)
      have R0 := V.out.rd.1
      obtain ⟨cat, hcat⟩ : ∃ x, Hid (catB key nonce c k = x) := ⟨_, rfl⟩
      rw [hcat.out] at cs CLen R0
      have RV := hid_ R0
      have hm64 : IntKind.i64.wrap (64 * (k : Int)) = 64 * (k : Int) := IntWalk.i64_in _ (by omega)
      have hc0 := hc.1
      have hc1 := hc.2
      clear R0 hzb cb
      go_upto_region 8 with fail
      refine region_by (CoC g key nonce c Av cat wr) (fun w w' => Below w.heap.size w w') (CoR g k key nonce c Av cv cat) (by kernel_rfl) (by kernel_rfl) (by kernel_rfl) (fun j v w w' hT h => h.below j v w w' hT) (fun j v w hlt hj _ => by
        exfalso
        rcases j with _ | _ | _ | _ | _ | _ | _ | _ | _ | _ | _ | _ | _ | _ | _ | _ | _ | j
        all_goals first
          | (simp [dstOf] at hj; done)
          | (simp at hlt; omega)) ⟨KK.out.drew, NN.out.drew, RV.out.drew, (Below.refl _ wr).drew⟩ ?_ ?_
      · refine ⟨fun a w hC hd hf hv K hK => ?_, fun a w hC hd hf hv K hK => ?_, fun a w hC hd hf hv K hK => ?_, fun a w hC hd hf hv K hK => ?_, fun a w hC hd hf hv K hK => ?_, fun a w hC hd hf hv K hK => ?_, fun a w hC hd hf hv K hK => ?_, fun a w hC hd hf hv K hK => ?_, fun a w hC hd hf hv K hK => ?_, fun a w hC hd hf hv K hK => ?_, fun a w hC hd hf hv K hK => ?_, fun a w hC hd hf hv K hK => ?_, fun a w hC hd hf hv K hK => ?_, fun a w hC hd hf hv K hK => ?_, fun a w hC hd hf hv K hK => ?_, fun a w hC hd hf hv K hK => ?_, fun a w hC hd hf hv K hK => ?_, trivial⟩
        · refine step_call 28 #[] (.bool true) (wanted_none rfl) (w' := w) ?_ ((streams_any w).mono fun e w2 hh => ⟨hh.1, hK _ _ (hC.below hh.2) hh.2 rfl⟩)
          go_simp
        · have e1 := slot_of (a := a) (s := 31) (v := .bool true) (hv 0 (by kernel_rfl))
          refine step_run (wanted_none rfl) (v := .bool true) (w' := w) ?_ (hK _ _ hC (Below.refl _ _) rfl)
          go_simp
        · have e32 : a.tmps.getD 32 undef = .bool true := hv 1 (by kernel_rfl)
          have e1 := eval_of (a := a) (s := 3) (v := .pointer (some ⟨g, 0, none⟩)) (hf 3 (by kernel_rfl))
          rw [if_pos (wanted_at rfl rfl e32)]
          exact wp_load_row 27 (.tmp 3) rfl g e1 27 (rowOf key) (0, 0) _ hC.1 Try.underlying27 rfl I32.out (hK _ _ hC (Below.refl _ _) rfl)
        · have e32 : a.tmps.getD 32 undef = .bool true := hv 1 (by kernel_rfl)
          have e1 := slot_of (a := a) (s := 4) (v := .pointer (some ⟨g + 1, 0, none⟩)) (hf 4 (by kernel_rfl))
          refine step_run (wanted_at rfl rfl e32) (v := .pointer (some ⟨g + 1, 0, none⟩)) (w' := w) ?_ (hK _ _ hC (Below.refl _ _) rfl)
          go_simp
        · have e32 : a.tmps.getD 32 undef = .bool true := hv 1 (by kernel_rfl)
          have e1 := slot_of (a := a) (s := 34) (v := .pointer (some ⟨g + 1, 0, none⟩)) (hv 3 (by kernel_rfl))
          have cc0 := hC.2.1.cell 0
          rw [atRow_zero] at cc0
          refine step_run (wanted_at rfl rfl e32) (v := .int .u32 c) (w' := w) ?_ (hK _ _ hC (Below.refl _ _) rfl)
          go_simp
        · have e32 : a.tmps.getD 32 undef = .bool true := hv 1 (by kernel_rfl)
          have e1 := slot_of (a := a) (s := 4) (v := .pointer (some ⟨g + 1, 0, none⟩)) (hf 4 (by kernel_rfl))
          refine step_run (wanted_at rfl rfl e32) (v := .pointer (some ⟨g + 1, 1, none⟩)) (w' := w) ?_ (hK _ _ hC (Below.refl _ _) rfl)
          go_simp
        · have e32 : a.tmps.getD 32 undef = .bool true := hv 1 (by kernel_rfl)
          have e1 := eval_of (a := a) (s := 36) (v := .pointer (some ⟨g + 1, 1, none⟩)) (hv 5 (by kernel_rfl))
          exact step_load_sub (wanted_at rfl rfl e32) 29 (.tmp 36) rfl (g + 1) 1 e1 (rowOf nonce) (fun j _ => (hC.2.1.cell (1 + j)).trans (atRow_next c nonce j)) _ Try.underlying29 rfl I12.out (hK _ _ hC (Below.refl _ _) rfl)
        · have e32 : a.tmps.getD 32 undef = .bool true := hv 1 (by kernel_rfl)
          have e1 := slot_of (a := a) (s := 2) (v := .int .i64 (k : Int)) (hf 2 (by kernel_rfl))
          refine step_run (wanted_at rfl rfl e32) (v := .int .i64 (k : Int)) (w' := w) ?_ (hK _ _ hC (Below.refl _ _) rfl)
          go_simp
        · have e32 : a.tmps.getD 32 undef = .bool true := hv 1 (by kernel_rfl)
          have e1 := slot_of (a := a) (s := 38) (v := .int .i64 (k : Int)) (hv 7 (by kernel_rfl))
          refine step_run (wanted_at rfl rfl e32) (v := .int .i64 (64 * (k : Int))) (w' := w) ?_ (hK _ _ hC (Below.refl _ _) rfl)
          go_simp
        · have e32 : a.tmps.getD 32 undef = .bool true := hv 1 (by kernel_rfl)
          have e1 := slot_of (a := a) (s := 39) (v := .int .i64 (64 * (k : Int))) (hv 8 (by kernel_rfl))
          have hm : (Instr.makeSlice 22 (.int .i64 (64 * (k : Int))) (.int .i64 (64 * (k : Int)))).run Try.prog w = .ok (.slice (some ⟨w.heap.size, 0, none⟩) (64 * k) (64 * k)) (w.alloc (.cells (rowOf (List.replicate (64 * k) 0)) 5)) := by
            have h := mk8 (64 * k) (by omega) w
            rwa [show ((64 * k : Nat) : Int) = 64 * (k : Int) by omega] at h
          refine step_run (wanted_at rfl rfl e32) (v := .slice (some ⟨w.heap.size, 0, none⟩) (64 * k) (64 * k)) (w' := w.alloc (.cells (rowOf (List.replicate (64 * k) 0)) 5)) ?_ (hK _ _ (hC.below ((Below.refl _ _).alloc (Nat.le_refl _) _)) ((Below.refl _ _).alloc (Nat.le_refl _) _) ⟨_, rfl, Blk8.new w _⟩)
          go_simp
        · have e32 : a.tmps.getD 32 undef = .bool true := hv 1 (by kernel_rfl)
          have e1 := slot_of (a := a) (s := 33) (v := .agg (rowOf key)) (hv 2 (by kernel_rfl))
          have e2 := slot_of (a := a) (s := 35) (v := .int .u32 c) (hv 4 (by kernel_rfl))
          have e3 := slot_of (a := a) (s := 37) (v := .agg (rowOf nonce)) (hv 6 (by kernel_rfl))
          obtain ⟨q, e0, hg⟩ : ∃ q, a.tmps.getD 40 undef = .slice (some ⟨q, 0, none⟩) (64 * k) (64 * k) ∧ Blk8 w q (List.replicate (64 * k) 0) := hv 9 (by kernel_rfl)
          have e4 := slot_of e0
          refine step_callx 30 #[.agg (rowOf key), .int .u32 c, .agg (rowOf nonce), .slice (some ⟨q, 0, none⟩) (64 * k) (64 * k)] (wanted_at rfl rfl e32) (w' := w) ?_ ((cs (some ⟨q, 0, none⟩) (64 * k) w (hg.rd hg.lt) (Nat.le_refl _) (by omega)).mono fun e w2 hh => ?_)
          · go_simp
          · obtain ⟨A, d, he, ho, hb⟩ := hh
            exact ⟨_, he, hK _ _ (hC.below hb) hb ⟨A, d, rfl, ho.rd.1⟩⟩
        · have e32 : a.tmps.getD 32 undef = .bool true := hv 1 (by kernel_rfl)
          obtain ⟨A, d, e0, hg⟩ : ∃ A d, a.tmps.getD 41 undef = .slice A (64 * k) d ∧ Rd w w.heap.size A cat := hv 10 (by kernel_rfl)
          have e1 := slot_of e0
          have cvv := conv_strn hg (64 * k) d CLen.out
          refine step_run (wanted_at rfl rfl e32) (v := .string (strOf cat)) (w' := w) ?_ (hK _ _ hC (Below.refl _ _) rfl)
          go_simp
        · have e32 : a.tmps.getD 32 undef = .bool true := hv 1 (by kernel_rfl)
          have e1 := slot_of (a := a) (s := 7) (v := .slice Av (64 * k) cv) (hf 7 (by kernel_rfl))
          refine step_run (wanted_at rfl rfl e32) (v := .slice Av (64 * k) cv) (w' := w) ?_ (hK _ _ hC (Below.refl _ _) rfl)
          go_simp
        · have e32 : a.tmps.getD 32 undef = .bool true := hv 1 (by kernel_rfl)
          have e1 := slot_of (a := a) (s := 43) (v := .slice Av (64 * k) cv) (hv 12 (by kernel_rfl))
          have cvv := conv_strn hC.2.2.1 (64 * k) cv CLen.out
          refine step_run (wanted_at rfl rfl e32) (v := .string (strOf cat)) (w' := w) ?_ (hK _ _ hC (Below.refl _ _) rfl)
          go_simp
        · have e32 : a.tmps.getD 32 undef = .bool true := hv 1 (by kernel_rfl)
          have e1 := slot_of (a := a) (s := 42) (v := .string (strOf cat)) (hv 11 (by kernel_rfl))
          have e2 := slot_of (a := a) (s := 44) (v := .string (strOf cat)) (hv 13 (by kernel_rfl))
          refine step_run (wanted_at rfl rfl e32) (v := .bool true) (w' := w) ?_ (hK _ _ hC (Below.refl _ _) rfl)
          go_simp
        · have e1 := slot_of (a := a) (s := 32) (v := .bool true) (hv 1 (by kernel_rfl))
          have e2 := slot_of (a := a) (s := 45) (v := .bool true) (hv 14 (by kernel_rfl))
          refine step_run (wanted_none rfl) (v := .bool true) (w' := w) ?_ (hK _ _ hC (Below.refl _ _) rfl)
          go_simp
        · have e1 := slot_of (a := a) (s := 46) (v := .bool true) (hv 15 (by kernel_rfl))
          refine step_run (wanted_none rfl) (v := .bool true) (w' := w) ?_ (hK _ _ hC (Below.refl _ _) rfl)
          go_simp
      · intro a W hC hd hsz hf hv
        have e0 : a.tmps.getD 6 undef = .bool true := hv 16 (by decide)
        have hbb := RR.out.trans (hC.2.2.2.mono (by have := RR.out.size; omega))
        rw [← hg.out] at hbb
        have HW := hid_ hbb
        clear hbb hf hv
        rename_i K hK
        refine hK _ _ ?_
        obtain ⟨tm, df⟩ := a
        obtain rfl : df = [] := hd
        go_wp2
        go_ret
        exact ⟨by simpa using e0, HW.out⟩

set_option maxRecDepth 100000 in
theorem lifted (os : Os) (started : os.Started) (H : Type) (enc : TypeId × Value → H) :
    ReturnsInHanded {} Try.checked os 7 .any (Rows.chachaCountsSpec.pre6 enc Try.prog Try.f7 Rows.chachaCountsRow.domain false) (Rows.chachaCountsSpec.post enc Try.prog Try.f7 false true false false) := by
  refine returnsInHanded_of_change (C := Try.checked) own_ started (by kernel_rfl) Try.func7
    (ChangeSpec.witness6 (enc := enc) (C := Try.checked) false ⟨#[], #[.agg #[.int .u8 0, .int .u8 0, .int .u8 0, .int .u8 0, .int .u8 0, .int .u8 0, .int .u8 0, .int .u8 0, .int .u8 0, .int .u8 0, .int .u8 0, .int .u8 0, .int .u8 0, .int .u8 0, .int .u8 0, .int .u8 0, .int .u8 0, .int .u8 0, .int .u8 0, .int .u8 0, .int .u8 0, .int .u8 0, .int .u8 0, .int .u8 0, .int .u8 0, .int .u8 0, .int .u8 0, .int .u8 0, .int .u8 0, .int .u8 0, .int .u8 0, .int .u8 0], .agg #[.int .u32 0, .int .u8 0, .int .u8 0, .int .u8 0, .int .u8 0, .int .u8 0, .int .u8 0, .int .u8 0, .int .u8 0, .int .u8 0, .int .u8 0, .int .u8 0, .int .u8 0], .int .i64 0], []⟩ 8 (by kernel_rfl) (by kernel_rfl) (by kernel_rfl) (by kernel_rfl)) ?_
  intro W base args ds gs before hval0 hW hcnd _
  have hval : ∀ (j : Nat) t v, Try.f7.params[j]? = some t → args[j]? = some v → Value.okWide Try.prog W .any base t v := hval0
  have hW' := hW
  obtain ⟨p, q, hA0, hV, rfl, hfz, hnd⟩ := hW
  have hA : DataW.TrodAll enc Try.prog W 0 (fun _ => true) true Try.f7.params.toList args.toList ds p := hA0
  rw [Try.params7] at hA hval
  obtain ⟨v0, vs0, d0, ds0, p0, q0, hargs, rfl, rfl, h0, r0⟩ := trodAll_cons hA
  obtain ⟨v1, vs1, d1, ds1, p1, q1, rfl, rfl, rfl, h1, r1⟩ := trodAll_cons r0
  obtain ⟨v2, vs2, d2, ds2, p2, q2, rfl, rfl, rfl, h2, r2⟩ := trodAll_cons r1
  obtain ⟨rfl, rfl, rfl⟩ := trodAll_nil r2
  obtain rfl : args = #[v0, v1, v2] := by cases args; simp_all
  obtain ⟨rfl, rfl⟩ := trodVars_none hV
  obtain ⟨l0, rfl, hl0⟩ := open_arr8 Try.underlying27 Try.underlying5 (by kernel_rfl) (by kernel_rfl) (hval 0 27 v0 rfl rfl) h0
  obtain ⟨c1, l1, rfl, hl1, hc1⟩ := open_at Try.underlying35 ⟨rfl, rfl⟩ ⟨rfl, rfl⟩ Try.underlying28 (by kernel_rfl) Try.underlying29 Try.underlying5 (by kernel_rfl) (by kernel_rfl) (by kernel_rfl) (hval 1 35 v1 rfl rfl) h1
  obtain ⟨a2, rfl, rfl, rfl, w2⟩ := open_int Try.underlying3 (hval 2 3 v2 rfl rfl) h2
  obtain ⟨b2, e2⟩ := bounds_i64 w2
  refine (walk l0 l1 c1 a2 W hl0 hl1 hc1).mono fun e W' ⟨he, hg⟩ => ⟨_, he, ?_⟩
  exact law_post laidOut_ (of_decide_eq_true (by kernel_rfl)) rfl rfl Try.underlying4 rfl hW' hg

theorem over : Rows.chachaCountsRow.holds Try.pinned (OpenSpec.ofChange Rows.chachaCountsSpec) :=
  OpenClaim.holds_of_wide 7 Try.f7 rfl rfl rfl rfl rfl rfl rfl ⟨rfl, rfl, rfl, rfl, rfl⟩ rfl rfl rfl rfl rfl (by kernel_rfl) Try.func7 (by kernel_rfl)
    (of_decide_eq_true (by kernel_rfl)) (by unfold Func.isWrapper; first | (rw [if_pos (by decide +kernel)]; kernel_rfl) | (rw [if_neg (by decide +kernel)]; exact ⟨rfl, rfl⟩))
    (fun os started H enc _ => lifted os started H enc)

theorem proved : Rows.ChachaCountsSaid := over
#print axioms proved
end Go.Proofs.Ytilgpblfdfhioaa.chachaCounts
