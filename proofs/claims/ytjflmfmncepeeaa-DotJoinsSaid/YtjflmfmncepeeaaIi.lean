/-
  dot.Has.
-/
import Derived.Test.YtjflmfmncepeeaaIh
namespace Go.Proofs.Ytjflmfmncepeeaa
open Go.ChangeShapes Go.WideShapes Go.ChangeAt Go.RowKit
set_option linter.unusedVariables false
set_option linter.unusedSimpArgs false

theorem wpList_load_rowWd {P : Program} {ops : Array Oper} {rest : List Oper} {o : Oper} {a : Act} {w : World} {Q : Exit → Act → World → Prop} (hw : Region.wanted o (yielded ops a.tmps) = true) (ty : TypeId) (x : Operand) (ho : o.op = .load ty x) (g : Nat) (hx : a.eval x = .pointer (some ⟨g, 0, none⟩)) (t : TypeId) (cs : Array Value) (hb : Bk w g t cs) (d : TypeDesc)
    (hu : P.underlying ty = some d) (hd : (match d with | .struct _ | .array _ _ => true | _ => false) = true) (hi : (P.info? ty).map (·.size) = some cs.size)
    (h : wpList P ops Q rest (a.put o.dst (.agg cs)) w) : wpList P ops Q (o :: rest) a w := by
  have hrun : (loadVar ty ⟨g, 0, none⟩).run P w = .ok (.agg cs) w := run_load_sub ty g 0 cs (fun j _ => by rw [Nat.zero_add]; exact hb.cell j) d hu hd hi
  refine BigFrame.wpList_want hw fun K hK => ?_
  unfold Oper.wp execOp
  simp only [ho, hx, Instr.loadAt, Instr.sureAddr, Sem.run_bind, Sem.run_pure, Result.andThen_ok, hrun]
  exact hK _ _ h
def hasR (up : List Int) (ms : List DotV) (d : DotV) : Bool :=
  if chk up ms ≠ 0 ∨ isD d = false then false else decide (d.n ≤ up.getD (d.c - 1).toNat 0) || decide (d ∈ ms)

set_option maxRecDepth 100000 in
set_option maxHeartbeats 8000000 in
theorem has_any_ (w : World) (up : List Int) (hu : up.length = 16) (A : Option Addr) (n c : Nat) (ms : List DotV) (hn : ms.length = n) (hn6 : n ≤ 1000000) (hc : n ≤ c) (hr : RdD w w.heap.size A ms) (d : DotV) :
    Calls Try.prog 17 #[.agg (ctxRow up A n c), .agg d.row] w fun e w' => e = .returned (.bool (hasR up ms d)) ∧ Below w.heap.size w w' := by
  obtain ⟨g, hg⟩ : ∃ g, w.heap.size = g := ⟨_, rfl⟩
  obtain ⟨wa, hwa⟩ : ∃ w0, w.alloc (.cells (ctxRow up A n c) 29) = w0 := ⟨_, rfl⟩
  have Ka := show Bk wa g 29 (ctxRow up A n c) by rw [← hwa, ← hg]; exact Bk.new w _ _
  have Xa := show Below g w wa by rw [← hwa, ← hg]; exact (Below.refl _ _).alloc (Nat.le_refl _) _
  have Sa : wa.heap.size = g + 1 := by rw [← hwa, ← hg]; simp
  obtain ⟨w0, hw0⟩ : ∃ w0, wa.alloc (.cells d.row 27) = w0 := ⟨_, rfl⟩
  have b0 : Below wa.heap.size wa w0 := by rw [← hw0]; exact (Below.refl _ _).alloc (Nat.le_refl _) _
  have D0 := hidd_ (show Bk w0 (g + 1) 27 d.row by rw [← Sa, ← hw0]; exact Bk.new wa _ _)
  have K0 := hidd_ (Ka.below b0 Ka.lt)
  have X0 := hidd_ (Xa.trans (b0.mono (by omega)))
  rw [hg] at hr
  have hgl : g < w0.heap.size := K0.out.lt
  have cc := check_any w0 up hu A n c ms hn hn6 hc ((hr.below X0.out).more (Nat.le_of_lt hgl))
  have cd := fun W => isDot_any W d
  have IX := hidd_ (show (Try.prog.info? 29).map (·.size) = some (ctxRow up A n c).size by rw [ctxRow_size up A n c hu]; exact iX_)
  have ID := hidd_ (show (Try.prog.info? 27).map (·.size) = some d.row.size from iD_)
  have HG := hidd_ hg
  have HU := hidd_ hu
  have HN := hidd_ hn
  have HR := hidd_ hr
  have HH := hidd_ (show hasR up ms d = if chk up ms ≠ 0 ∨ isD d = false then false else decide (d.n ≤ up.getD (d.c - 1).toNat 0) || decide (d ∈ ms) from rfl)
  have HCU := hidd_ (fun (h : chk up ms = 0) => chk_up h)
  obtain ⟨e, he⟩ : ∃ e, chk up ms = e := ⟨_, rfl⟩
  rw [he] at cc HH HCU
  obtain ⟨bz, hbz⟩ : ∃ b, isD d = b := ⟨_, rfl⟩
  have HBZ := hidd_ hbz
  rw [hbz] at cd HH
  clear hu hn hr he hbz Ka Xa b0
  by_cases he0 : e = 0
  · subst he0
    cases bz
    · have hq : hasR up ms d = false := by rw [HH.out]; rfl
      rw [hq]
      clear hq
      go_enter Try.func17, Try.ntmps17
      go_wp2_with (first
        | (refine wpList_load_row rfl 29 (.tmp 2) rfl g rfl 29 (ctxRow up A n c) (0, 0) _ K0.out Try.underlying29 rfl IX.out ?_)
        | (go_at_call 16; ((with_reducible refine cc.mono ?_); clear cc; rintro e w1 ⟨rfl, hb⟩; have X1 := hidd_ (X0.out.trans (hb.mono (Nat.le_of_lt hgl))); have D1 := hidd_ (D0.out.below hb D0.out.lt); clear hb))
        | (refine wpList_load_rowWd (by go_simp) 27 (.tmp 3) rfl (g + 1) rfl 27 d.row D1.out _ Try.underlying27 rfl ID.out ?_)
        | (go_at_call 36; ((with_reducible refine (cd _).mono ?_); rintro e w2 ⟨rfl, hb⟩; have X2 := hidd_ (X1.out.trans (hb.mono (by have := D1.out.lt; omega))); clear hb)))
      go_ret
      exact ⟨rfl, by first | exact X2.out | (rw [HG.out]; exact X2.out)⟩
    · obtain ⟨hb1, hb2⟩ : (1 ≤ d.c ∧ d.c ≤ 16) ∧ 1 ≤ d.n ∧ d.n ≤ 1099511627776 := of_decide_eq_true HBZ.out
      obtain ⟨r, hr0⟩ : ∃ r, hasR up ms d = r := ⟨_, rfl⟩
      have HRR := hidd_ hr0
      rw [hr0]
      clear hr0
      go_enter Try.func17, Try.ntmps17
      go_upto_region 3 with (first
        | (refine wpList_load_row rfl 29 (.tmp 2) rfl g rfl 29 (ctxRow up A n c) (0, 0) _ K0.out Try.underlying29 rfl IX.out ?_)
        | (go_at_call 16; ((with_reducible refine cc.mono ?_); clear cc; rintro e w1 ⟨rfl, hb⟩; have X1 := hidd_ (X0.out.trans (hb.mono (Nat.le_of_lt hgl))); have D1 := hidd_ (D0.out.below hb D0.out.lt); have K1 := hidd_ (K0.out.below hb K0.out.lt); clear hb))
        | (refine wpList_load_rowWd (by go_simp) 27 (.tmp 3) rfl (g + 1) rfl 27 d.row D1.out _ Try.underlying27 rfl ID.out ?_)
        | (go_at_call 36; ((with_reducible refine (cd _).mono ?_); rintro e w2 ⟨rfl, hb⟩; have X2 := hidd_ (X1.out.trans (hb.mono (by have := D1.out.lt; omega))); have D2 := hidd_ (D1.out.below hb D1.out.lt); have K2 := hidd_ (K1.out.below hb K1.out.lt); clear hb)))
      clear hw0 hwa Sa
      obtain ⟨m, hm⟩ : ∃ m : Nat, d.c - 1 = (m : Int) := ⟨(d.c - 1).toNat, by omega⟩
      have hm16 : m < 16 := by omega
      have HF := hidd_ (show hasR up ms d = (decide (d.n ≤ up.getD m 0) || decide (d ∈ ms)) by rw [HH.out, if_neg (by simp), show (d.c - 1).toNat = m by omega])
      obtain ⟨uu, huu⟩ : ∃ u, up.getD m 0 = u := ⟨_, rfl⟩
      have e1 : IntKind.i64.wrap (d.c - 1) = (m : Int) := by rw [IntWalk.i64_in _ (by omega)]; exact hm
      have e2 : IntKind.i64.wrap (m : Int) = (m : Int) := IntWalk.i64_in _ (by omega)
      have f1 : (0 : Int) ≤ (m : Int) := by omega
      have f2 : (m : Int) < 16 := by omega
      have CK := hidd_ (fun W (h : Below w2.heap.size w2 W) => K2.out.below h K2.out.lt)
      have CM := hidd_ (fun W (h : Below w2.heap.size w2 W) => ((CK.out W h).cell m).trans ((ctxRow_up up A n c m HU.out hm16).trans (by rw [huu])))
      have CX := hidd_ (fun W (h : Below w2.heap.size w2 W) => ((CK.out W h).cell 16).trans (ctxRow_more up A n c HU.out))
      have CD := hidd_ (fun W (h : Below w2.heap.size w2 W) => D2.out.below h D2.out.lt)
      rw [huu] at HF
      have P1 : Hid (∀ W, Below w2.heap.size w2 W → Calls Try.prog 38 #[.slice A n c, .agg d.row] W fun e w' => e = .returned (.bool (decide (d ∈ ms))) ∧ Below w2.heap.size w2 w') := hidd_ (fun W h => (contains_any W A n c ms HN.out hn6 ((((HR.out.below X2.out).more (show g ≤ w2.heap.size by have := K2.out.lt; omega)).below h).more h.size) d).mono fun e w' hh => ⟨hh.1, h.trans (hh.2.mono h.size)⟩)
      obtain ⟨dc, dn⟩ := d
      have CT := hidd_ (fun W (h : Below w2.heap.size w2 W) => Bk.twod (show Bk W (g + 1) 27 #[.int .i64 dc, .int .i64 dn] from CD.out W h))
      obtain ⟨le, hle⟩ : ∃ x, decide (dn ≤ uu) = x := ⟨_, rfl⟩
      have HLE := hidd_ hle
      obtain ⟨me, hme⟩ : ∃ x, decide ((⟨dc, dn⟩ : DotV) ∈ ms) = x := ⟨_, rfl⟩
      rw [hme] at P1
      obtain rfl : (le || me) = r := by rw [← HRR.out, HF.out, ← hle, ← hme]
      have hle2 : g ≤ w2.heap.size := Nat.le_of_lt K2.out.lt
      clear hme huu hb1 hb2 HF HRR HH CK
      cases le
      all_goals
        refine region_quiet_in (C := fun W => Below w2.heap.size w2 W) (by kernel_rfl) (by kernel_rfl) ((Below.refl _ _).drew) ?_
        repeat (first | go_big_quiet_skip | (go_big_quiet_want; (first
          | (refine BigFrame.quiet_move _ rfl ?_; go_simp)
          | (refine BigFrame.quiet_assign _ rfl ?_; go_simp)
          | (refine quiet_load_rowd 27 (.tmp 3) rfl (g + 1) rfl 27 (DotV.row ⟨dc, dn⟩) _ Try.underlying27 rfl ID.out CD.out ?_; go_simp)
          | (refine quiet_call (.bool me) 38 #[.slice A n c, .agg (DotV.row ⟨dc, dn⟩)] ?_ P1.out ?_; (focus (intro W; go_simp; done)); go_simp)
          | (refine quiet_run (.pointer (some ⟨g + 1, 1, none⟩)) ?_ ?_; (focus (intro W hW; go_simp; done)); go_simp)
          | (refine quiet_run (.pointer (some ⟨g + 1, 0, none⟩)) ?_ ?_; (focus (intro W hW; go_simp; done)); go_simp)
          | (refine quiet_run (.pointer (some ⟨g, 0, none⟩)) ?_ ?_; (focus (intro W hW; go_simp; done)); go_simp)
          | (refine quiet_run (.pointer (some ⟨g, 16, none⟩)) ?_ ?_; (focus (intro W hW; go_simp; done)); go_simp)
          | (refine quiet_run (.pointer (some ⟨g, m, none⟩)) ?_ ?_; (focus (intro W hW; go_simp; done)); go_simp)
          | (refine quiet_run (.int .i64 dn) ?_ ?_; (focus (intro W hW; have h := (CT.out W hW).2; go_simp; done)); go_simp)
          | (refine quiet_run (.int .i64 dc) ?_ ?_; (focus (intro W hW; have h := (CT.out W hW).1; go_simp; done)); go_simp)
          | (refine quiet_run (.int .i64 (m : Int)) ?_ ?_; (focus (intro W hW; go_simp; done)); go_simp)
          | (refine quiet_run (.int .i64 uu) ?_ ?_; (focus (intro W hW; have h := CM.out W hW; go_simp; done)); go_simp)
          | (refine quiet_run (.slice A n c) ?_ ?_; (focus (intro W hW; have h := CX.out W hW; go_simp; done)); go_simp)
          | (refine quiet_run (.bool true) ?_ ?_; (focus (intro W hW; go_simp; done)); go_simp)
          | (refine quiet_run (.bool false) ?_ ?_; (focus (intro W hW; go_simp; done)); go_simp)
          | (refine quiet_run (.bool me) ?_ ?_; (focus (intro W hW; go_simp; done)); go_simp)); go_big_quiet_on))
        refine wpQuiet_nil ?_
        intro w7 hw7
        have X7 := hidd_ (X2.out.trans (Below.mono hw7 hle2))
        clear hw7
        go_wp2
        go_ret
        exact ⟨by first | rfl | simp, by first | exact X7.out | (rw [HG.out]; exact X7.out)⟩
  · have b1 : (e == 0) = false := by simpa using he0
    have b2 : (e != 0) = true := by simpa using he0
    have hq : hasR up ms d = false := by rw [HH.out, if_pos (.inl he0)]
    rw [hq]
    clear hq he0
    go_enter Try.func17, Try.ntmps17
    go_wp2_with (first
      | (refine wpList_load_row rfl 29 (.tmp 2) rfl g rfl 29 (ctxRow up A n c) (0, 0) _ K0.out Try.underlying29 rfl IX.out ?_)
      | (go_at_call 16; ((with_reducible refine cc.mono ?_); clear cc; rintro e w1 ⟨rfl, hb⟩; have X1 := hidd_ (X0.out.trans (hb.mono (Nat.le_of_lt hgl))); clear hb)))
    go_ret
    exact ⟨rfl, by first | exact X1.out | (rw [HG.out]; exact X1.out)⟩
end Go.Proofs.Ytjflmfmncepeeaa
