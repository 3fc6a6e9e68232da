/-
  dot.contextOf.
-/
import Derived.Test.YtjflmfmncepeeaaIr
import Derived.Test.YtjflmfmncepeeaaIo
import Derived.Test.YtjflmfmncepeeaaIl
namespace Go.Proofs.Ytjflmfmncepeeaa
open Go.ChangeShapes Go.WideShapes Go.ChangeAt Go.RowKit
set_option linter.unusedVariables false
set_option linter.unusedSimpArgs false

theorem built_up16 (a0 a1 a2 a3 a4 a5 a6 a7 a8 a9 a10 a11 a12 a13 a14 a15 : Int) : Try.prog.built 29 [(0, .agg (intRow [a0, a1, a2, a3, a4, a5, a6, a7, a8, a9, a10, a11, a12, a13, a14, a15]))] = some (ctxRow [a0, a1, a2, a3, a4, a5, a6, a7, a8, a9, a10, a11, a12, a13, a14, a15] none 0 0) := by kernel_rfl
theorem built_up (up : List Int) (hu : up.length = 16) : Try.prog.built 29 [(0, .agg (intRow up))] = some (ctxRow up none 0 0) := by
  match up, hu with
  | [a0, a1, a2, a3, a4, a5, a6, a7, a8, a9, a10, a11, a12, a13, a14, a15], _ => exact built_up16 a0 a1 a2 a3 a4 a5 a6 a7 a8 a9 a10 a11 a12 a13 a14 a15
theorem ctxRow_setup (up : List Int) (A : Option Addr) (n c k : Nat) (z : Int) (h : up.length = 16) (hk : k < 16) : (ctxRow up A n c).setIfInBounds k (.int .i64 z) = ctxRow (up.set k z) A n c := by
  simp only [ctxRow, List.setIfInBounds_toArray, List.map_set]
  rw [List.set_append_left _ _ (by simpa [h] using hk)]
theorem rdD_one {w : World} {g : Nat} {d : DotV} (h : Bk w g 27 d.row) (B : Nat) (hB : g < B) : RdD w B (some ⟨g, 0, none⟩) [d] := fun _ => ⟨g, 0, rfl, hB, fun j hj => by
  have : j = 0 := by simpa using hj
  subst this
  exact ⟨h.cell 0, h.cell 1⟩⟩
theorem results_cell_slotD {P : Program} {fn : Func} {p q : Tmp} {ty : TypeId} (h : fn.results = #[.cell p ty, .tmp q]) (tmps : Array Value) (w : World) (g : Nat) {v v' : Value}
    (hp : tmps.getD p undef = .pointer (some ⟨g, 0, none⟩)) (hq : tmps.getD q undef = v')
    (h1 : (loadVar ty ⟨g, 0, none⟩).run P w = .ok v w) :
    (results fn tmps).run P w = .ok (.tuple #[v, v']) w := by
  have hp' : tmps[p]?.getD undef = .pointer (some ⟨g, 0, none⟩) := by simpa using hp
  have hq' : tmps[q]?.getD undef = v' := by simpa using hq
  simp [results, h, hp', hq', asAddr, h1]
/-- What contextOf leaves. -/
def CtxP (w : World) (g n : Nat) (up : List Int) (ms : List DotV) (e : Ending) (w' : World) : Prop :=
  w.grownBy w' (some g) ∧ ∃ srt : List DotV, srt.Perm ms ∧ (∀ i j, i < j → j < n → ltOf cmpD (srt.getD j ⟨0, 0⟩) (srt.getD i ⟨0, 0⟩) = false) ∧
    ∃ st, st = runX up (ddN srt n) (ddN srt n).length ∧
      ((32 < st.2.length ∧ e = .returned (.tuple #[.agg (ctxRow (List.replicate 16 0) none 0 0), .int .i64 11])) ∨
       (st.2.length ≤ 32 ∧ ∃ A c, e = .returned (.tuple #[.agg (ctxRow st.1 A st.2.length c), .int .i64 0]) ∧ RdD w' w'.heap.size A st.2 ∧ st.2.length ≤ c ∧ c ≤ 9223372036854775807 ∧ ∀ y, A = some y → w.heap.size ≤ y.block))

theorem ctx_end {w wr W : World} {g G : Nat} (h : w.grownBy wr (some g)) (hG : w.heap.size = G) (hg : wr.grownBy W (some (G + 1))) : w.grownBy W (some g) :=
  ⟨hg.os.trans h.os, hg.tape.trans h.tape, hg.output.trans h.output, Nat.le_trans h.size hg.size, fun b hb hne => (hg.block b (Nat.lt_of_lt_of_le hb h.size) (fun e => by injection e with e; omega)).trans (h.block b hb hne)⟩

set_option maxRecDepth 100000 in
set_option maxHeartbeats 8000000 in
theorem contextOf_any (w : World) (up : List Int) (hU : Up16 up) (base g n c : Nat) (ms : List DotV) (hn6 : n ≤ 1000000) (hd : ∀ d ∈ ms, isD d = true) (h : OwnD w base (.slice (some ⟨g, 0, none⟩) n c) ms) :
    Calls Try.prog 45 #[.agg (intRow up), .slice (some ⟨g, 0, none⟩) n c] w (CtxP w g n up ms) := by
  obtain ⟨_, hn⟩ := h.rd
  have hgl := (h.lt g rfl).2
  obtain ⟨G, hG⟩ : ∃ G, w.heap.size = G := ⟨_, rfl⟩
  obtain ⟨w1, hw1⟩ : ∃ x, w.alloc (.cells (intRow up) 22) = x := ⟨_, rfl⟩
  have U1 := show Bk w1 G 22 (intRow up) by rw [← hw1, ← hG]; exact Bk.new w _ _
  have b1 : Below w.heap.size w w1 := by rw [← hw1]; exact (Below.refl _ _).alloc (Nat.le_refl _) _
  have S1 : w1.heap.size = G + 1 := by rw [← hw1, ← hG]; simp
  have hz := zX_
  have IX := hidd_ (fun up' (hu : up'.length = 16) A n c => (show (Try.prog.info? 29).map (·.size) = some (ctxRow up' A n c).size by rw [ctxRow_size up' A n c hu]; exact iX_))
  have IU := hidd_ (show (Try.prog.info? 22).map (·.size) = some (intRow up).size by rw [intRow_size, hU.1]; exact iU_)
  have BU := hidd_ (built_up up hU.1)
  go_enter Try.func45, Try.ntmps45
  go_upto_region 1 with fail
  generalize hw2 : w1.alloc _ = w2
  have b2 : Below w1.heap.size w1 w2 := by rw [← hw2]; exact (Below.refl _ _).alloc (Nat.le_refl _) _
  have S2 : w2.heap.size = G + 2 := by rw [← hw2]; simp [S1]
  have R2 := hidd_ (show Bk w2 (G + 1) 29 (ctxRow (List.replicate 16 0) none 0 0) by rw [← S1, ← hw2]; exact Bk.new w1 _ _)
  have U2 := hidd_ (U1.below b2 U1.lt)
  have X2 := hidd_ (b1.trans (b2.mono b1.size))
  have HO2 := hidd_ (h.below (X2.out.trans (Below.refl _ _)) (Nat.le_refl _))
  have HN := hidd_ hn
  have HD := hidd_ hd
  have HUP := hidd_ hU
  have HG := hidd_ hG
  clear h hn hd b1 b2 U1 hw1 hw2 S1
  go_upto_region 4 with (first
    | (refine wpList_load_row rfl 22 (.tmp 2) rfl G rfl 22 (intRow up) (0, 0) _ U2.out Try.underlying22 rfl IU.out ?_)
    | (refine wpList_built rfl 29 _ rfl (ctxRow up none 0 0) (by simp only [List.map_toArray, List.map_cons, List.map_nil]; exact BU.out) ?_)
    | (refine wpList_put_row rfl 29 (.tmp 6) (.tmp 11) rfl (G + 2) (ctxRow up none 0 0) rfl rfl 29 (ctxRow (List.replicate 16 0) none 0 0) (by rw [← S2]; exact Bk.new w2 _ _) (IX.out up hU.1 none 0 0) (by rw [ctxRow_size _ _ _ _ hU.1]; rfl) (ctxRow_one _ _ _ _) ?_; intro w3 k3 g3 s3; have B3 := hidd_ ((((Below.refl w2.heap.size w2).alloc (Nat.le_refl _) (.cells (ctxRow (List.replicate 16 0) none 0 0) 29)).grown g3 (by simp) (fun k hk => by injection hk with hk; omega))); have K3 := hidd_ k3; have S3 := (show w3.heap.size = G + 3 by rw [s3]; simp [S2]); clear k3 g3 s3; have O3 := hidd_ (HO2.out.below B3.out (Nat.le_refl _)); have cs := sort_any w3 base g n c ms HN.out.symm hn6 O3.out)
    | (go_at_call 64; ((with_reducible refine cs.mono ?_); clear cs; rintro e w4 ⟨rfl, srt, hp, hs, ho, hg⟩; have HP := hidd_ hp; have HS := hidd_ hs; have G4 := hidd_ hg; have cc := compact_any w4 base g n c srt hn6 ho; clear hp hs ho hg))
    | (go_at_call 65; ((with_reducible refine cc.mono ?_); clear cc; rintro e w5 ⟨m, rfl, ho, hg⟩; have O5 := hidd_ ho; have G5 := hidd_ (G4.out.trans hg); clear ho hg)))
  obtain ⟨dd, hdd⟩ : ∃ x, ddN srt n = x := ⟨_, rfl⟩
  have HDD := hidd_ hdd
  rw [hdd] at O5
  have hl5 := O5.out.rd.2
  have hmm : dd.length ≤ n := by rw [← hdd]; exact ddN_len n
  have HI := hidd_ (show ∀ d ∈ dd, isD d = true from fun d h => HD.out d (HP.out.mem_iff.1 (ddN_mem n (by have := HP.out.length_eq; have := HN.out; omega) d (by rw [hdd]; exact h))))
  have K5 := hidd_ (K3.out.grown G5.out (fun e => by injection e with e; omega))
  have R5 := hidd_ ((R2.out.below B3.out R2.out.lt).grown G5.out (fun e => by injection e with e; omega))
  have hG5 : G + 3 ≤ w5.heap.size := by have := G5.out.size; omega
  have HL := hidd_ hl5
  have hm6 : m ≤ 1000000 := by omega
  clear hdd hl5 U2 HO2 O3 G4
  go_loopw [17] (fun v wr => ∃ (k : Nat) (A' : Option Addr) (c' : Nat), k ≤ m ∧ v = .int .i64 k ∧ Hid (Bk wr (G + 2) 29 (ctxRow (runX up dd k).1 A' (runX up dd k).2.length c')) ∧ Hid (OwnD wr w5.heap.size (.slice A' (runX up dd k).2.length c') (runX up dd k).2) ∧ Hid (OwnD wr base (.slice (some ⟨g, 0, none⟩) m c) dd) ∧ Hid (w5.grownBy wr (some (G + 2)))) (fun v _ => m - (intOf v).toNat)
  case atStart => exact ⟨0, none, 0, by omega, rfl, K5, hidd_ (OwnD.nil_ _ _), O5, hidd_ (World.grownBy.refl _ _)⟩
  case round =>
    obtain ⟨k, A', c', hk, rfl, H1, H2, H3, H4⟩ := hrel
    by_cases hlt : k < m
    · have HU := hidd_ (runX_up HUP.out HI.out k (by have := HL.out; omega))
      have HRL := hidd_ (runX_len up dd k)
      have HST := hidd_ (show runX up dd (k + 1) = stpX (runX up dd k) (dd.getD k ⟨0, 0⟩) from rfl)
      have hdk : isD (dd.getD k ⟨0, 0⟩) = true := by
        have : k < dd.length := by have := HL.out; omega
        simp only [List.getD, List.getElem?_eq_getElem this, Option.getD_some]
        exact HI.out _ (List.getElem_mem this)
      have cd := H3.out.two k hlt
      obtain ⟨d, hd⟩ : ∃ d, dd.getD k ⟨0, 0⟩ = d := ⟨_, rfl⟩
      obtain ⟨st, hst⟩ : ∃ st, runX up dd k = st := ⟨_, rfl⟩
      rw [hd] at hdk cd HST
      rw [hst] at H1 H2 HU HRL HST
      obtain ⟨u, more⟩ := st
      simp only at H1 H2 HU HRL
      obtain ⟨⟨d1, d2⟩, d3, d4⟩ : (1 ≤ d.c ∧ d.c ≤ 16) ∧ 1 ≤ d.n ∧ d.n ≤ 1099511627776 := of_decide_eq_true hdk
      obtain ⟨i, hi⟩ : ∃ i : Nat, d.c - 1 = (i : Int) := ⟨(d.c - 1).toNat, by omega⟩
      have hi16 : i < 16 := by omega
      have HSI := hidd_ (show runX up dd (k + 1) = if d.n ≤ u.getD i 0 then (u, more) else if d.n = u.getD i 0 + 1 then (u.set i d.n, more) else (u, more ++ [d]) by rw [HST.out]; unfold stpX; rw [show (d.c - 1).toNat = i by omega])
      have hub := HU.out.2 i
      have t0 : (0 : Int) ≤ (k : Int) := by omega
      have tn : (k : Int) < (m : Int) := by omega
      have e1 : IntKind.i64.wrap (d.c - 1) = (i : Int) := by rw [IntWalk.i64_in _ (by omega)]; exact hi
      have e2 : IntKind.i64.wrap (i : Int) = (i : Int) := IntWalk.i64_in _ (by omega)
      have f1 : (0 : Int) ≤ (i : Int) := by omega
      have f2 : (i : Int) < 16 := by omega
      have CD := hidd_ (row_two cd.1 cd.2)
      have ID := hidd_ (show (Try.prog.info? 27).map (·.size) = some d.row.size from iD_)
      have hzD := zD_
      have HCM := hidd_ ((H1.out.cell i).trans (ctxRow_up u A' more.length c' i HU.out.1 hi16))
      clear cd hdk hd hst
      go_upto_region 6 with (first
        | (refine wpList_load_sub rfl 27 (.tmp 19) rfl g (k * 2) rfl d.row CD.out _ Try.underlying27 rfl ID.out ?_)
        | (refine wpList_put_row rfl 27 _ _ rfl wr.heap.size d.row rfl rfl 27 #[.int .i64 0, .int .i64 0] (Bk.new wr _ _) ID.out rfl (row_one d) ?_; intro w6 k6 g6 s6; have BX := hidd_ (((Below.refl wr.heap.size wr).alloc (Nat.le_refl _) (.cells #[.int .i64 0, .int .i64 0] 27)).grown g6 (by simp) (fun k hk => by injection hk with hk; omega)); have D6 := hidd_ k6; clear k6 g6 s6))
      try rw [put_none]
      have M6 := hidd_ (H1.out.below BX.out H1.out.lt)
      have O6 := hidd_ (H2.out.below BX.out (Nat.le_refl _))
      have P6 := hidd_ (H3.out.below BX.out (Nat.le_refl _))
      have G6 := hidd_ (grown_of_below H4.out BX.out)
      generalize wr.heap.size = gd at *
      obtain ⟨dc, dn⟩ := d
      obtain ⟨x1, x2⟩ := Bk.twod (show Bk w6 gd 27 #[.int .i64 dc, .int .i64 dn] from D6.out)
      obtain ⟨u0, hu0⟩ : ∃ z, u.getD i 0 = z := ⟨_, rfl⟩
      rw [hu0] at HSI hub HCM
      have hcm := (M6.out.cell i).trans ((ctxRow_up u A' more.length c' i HU.out.1 hi16).trans (by rw [hu0]))
      have CT := hidd_ (fun W (h : Below w6.heap.size w6 W) => Bk.twod (show Bk W gd 27 #[.int .i64 dc, .int .i64 dn] from D6.out.below h D6.out.lt))
      have CM := hidd_ (fun W (h : Below w6.heap.size w6 W) => (h.cell (p := ⟨G + 2, i, none⟩) M6.out.lt).trans hcm)
      have e3 : IntKind.i64.wrap (u0 + 1) = u0 + 1 := IntWalk.i64_in _ (by omega)
      clear hu0 hcm BX H1 H2 H3 H4 HCM
      go_upto_region 8 with fail
      clear x1 x2 e1 e2
      obtain ⟨le, hle⟩ : ∃ b, decide (dn ≤ u0) = b := ⟨_, rfl⟩
      refine region_quiet_in (C := fun W => Below w6.heap.size w6 W) (by kernel_rfl) (by kernel_rfl) ((Below.refl _ _).drew) ?_
      repeat (first | go_big_quiet_skip | (go_big_quiet_want; (first
        | (refine BigFrame.quiet_move _ rfl ?_; go_simp)
        | (refine BigFrame.quiet_assign _ rfl ?_; go_simp)
        | (refine quiet_run (.pointer (some ⟨gd, 1, none⟩)) ?_ ?_; (focus (intro W hW; go_simp; done)); go_simp)
        | (refine quiet_run (.pointer (some ⟨G + 2, i, none⟩)) ?_ ?_; (focus (intro W hW; go_simp; done)); go_simp)
        | (refine quiet_run (.int .i64 dn) ?_ ?_; (focus (intro W hW; have h := (CT.out W hW).2; go_simp; done)); go_simp)
        | (refine quiet_run (.int .i64 u0) ?_ ?_; (focus (intro W hW; have h := CM.out W hW; go_simp; done)); go_simp)
        | (refine quiet_run (.bool le) ?_ ?_; (focus (intro W hW; go_simp; done)); go_simp)); go_big_quiet_on))
      refine wpQuiet_nil ?_
      intro w7 hw7
      have M7 := hidd_ (M6.out.below hw7 M6.out.lt)
      have O7 := hidd_ (O6.out.below hw7 (Nat.le_refl _))
      have P7 := hidd_ (P6.out.below hw7 (Nat.le_refl _))
      have G7 := hidd_ (grown_of_below G6.out hw7)
      have D7 := hidd_ (D6.out.below hw7 D6.out.lt)
      have CT7 := hidd_ (fun W (h : Below w7.heap.size w7 W) => CT.out W (hw7.trans (h.mono hw7.size)))
      have CM7 := hidd_ (fun W (h : Below w7.heap.size w7 W) => CM.out W (hw7.trans (h.mono hw7.size)))
      clear hw7 CT CM M6 O6 P6 G6 D6
      cases le
      · have hgt : ¬ dn ≤ u0 := of_decide_eq_false hle
        have HS2 := hidd_ (show runX up dd (k + 1) = if dn = u0 + 1 then (u.set i dn, more) else (u, more ++ [⟨dc, dn⟩]) by rw [HSI.out]; exact if_neg hgt)
        clear hle hgt HSI
        obtain ⟨eq, heq⟩ : ∃ b, decide (dn = u0 + 1) = b := ⟨_, rfl⟩
        have heq2 : (dn == u0 + 1) = eq := by rw [← heq]; rfl
        go_upto_region 9 with fail
        refine region_quiet_in (C := fun W => Below w7.heap.size w7 W) (by kernel_rfl) (by kernel_rfl) ((Below.refl _ _).drew) ?_
        repeat (first | go_big_quiet_skip | (go_big_quiet_want; (first
          | (refine BigFrame.quiet_move _ rfl ?_; go_simp)
          | (refine BigFrame.quiet_assign _ rfl ?_; go_simp)
          | (refine quiet_run (.pointer (some ⟨gd, 1, none⟩)) ?_ ?_; (focus (intro W hW; go_simp; done)); go_simp)
          | (refine quiet_run (.pointer (some ⟨G + 2, i, none⟩)) ?_ ?_; (focus (intro W hW; go_simp; done)); go_simp)
          | (refine quiet_run (.int .i64 dn) ?_ ?_; (focus (intro W hW; have h := (CT7.out W hW).2; go_simp; done)); go_simp)
          | (refine quiet_run (.int .i64 u0) ?_ ?_; (focus (intro W hW; have h := CM7.out W hW; go_simp; done)); go_simp)
          | (refine quiet_run (.int .i64 (u0 + 1)) ?_ ?_; (focus (intro W hW; go_simp; done)); go_simp)
          | (refine quiet_run (.bool eq) ?_ ?_; (focus (intro W hW; go_simp; done)); go_simp)); go_big_quiet_on))
        refine wpQuiet_nil ?_
        intro w8 hw8
        have M8 := hidd_ (M7.out.below hw8 M7.out.lt)
        have O8 := hidd_ (O7.out.below hw8 (Nat.le_refl _))
        have P8 := hidd_ (P7.out.below hw8 (Nat.le_refl _))
        have G8 := hidd_ (grown_of_below G7.out hw8)
        have D8 := hidd_ (D7.out.below hw8 D7.out.lt)
        have hdn := (CT7.out w8 hw8).2
        clear hw8 CT7 CM7 M7 O7 P7 G7 D7
        have hfz := M8.out.frozen i
        have hcz := (M8.out.cell i).trans (ctxRow_up u A' more.length c' i HU.out.1 hi16)
        cases eq
        · have HR := hidd_ (show runX up dd (k + 1) = (u, more ++ [⟨dc, dn⟩]) by rw [HS2.out]; exact if_neg (of_decide_eq_false heq))
          clear heq heq2
          have hcx := (M8.out.cell 16).trans (ctxRow_more u A' more.length c' HU.out.1)
          have hG8 : w5.heap.size ≤ w8.heap.size := G8.out.size
          obtain ⟨w9, hw9⟩ : ∃ x, w8.alloc (.cells #[.int .i64 dc, .int .i64 dn] 27) = x := ⟨_, rfl⟩
          have b9 : Below w8.heap.size w8 w9 := by rw [← hw9]; exact (Below.refl _ _).alloc (Nat.le_refl _) _
          have K9 := hidd_ (show Bk w9 w8.heap.size 27 (DotV.row ⟨dc, dn⟩) by rw [← hw9]; exact Bk.new w8 _ _)
          have M9 := hidd_ (M8.out.below b9 M8.out.lt)
          have O9 := hidd_ (O8.out.below b9 (Nat.le_refl _))
          have P9 := hidd_ (P8.out.below b9 (Nat.le_refl _))
          have G9 := hidd_ (grown_of_below G8.out b9)
          have hle9 : w5.heap.size ≤ w9.heap.size := G9.out.size
          have RA := hidd_ (rdD_one K9.out _ K9.out.lt)
          have T1 : more.length + 1 ≤ 1000000 := by have := HRL.out; omega
          have T2 : some (G + 2) ≠ (Value.slice A' more.length c').ownBlock := fun e => by have := (O9.out.lt _ e.symm).1; omega
          have T3 : (Value.slice (some ⟨g, 0, none⟩) m c).ownBlock ≠ (Value.slice A' more.length c').ownBlock := fun e => by have := (O9.out.lt g e.symm).1; omega
          have T4 : ∀ b, b < w5.heap.size → some b ≠ (Value.slice A' more.length c').ownBlock := fun b hb e => by have := (O9.out.lt _ e.symm).1; omega
          have HT := hidd_ (And.intro T2 (And.intro T3 T4))
          clear T2 T3 T4 b9 M8 O8 P8 G8 hfz hcz
          go_upto_region 11 with (first
            | (refine wpList_load_row rfl 27 (.tmp 8) rfl gd rfl 27 #[.int .i64 dc, .int .i64 dn] (0, 0) _ D8.out Try.underlying27 rfl ID.out ?_)
            | (refine wpList_appDD rfl (.tmp 27) (.tmp 29) rfl O9.out rfl 1 1 rfl RA.out rfl T1 hle9 ?_; intro A2 c2 w10 k1 k2 k3; have O10 := hidd_ k1; have K2 := hidd_ k2; have M10 := hidd_ (M9.out.grown k2 HT.out.1); have P10 := hidd_ (OwnD.kept P9.out k2 (.inr HT.out.2.1)); have G10 := hidd_ (show w5.grownBy w10 (some (G + 2)) from ⟨k2.os.trans G9.out.os, k2.tape.trans G9.out.tape, k2.output.trans G9.out.output, Nat.le_trans G9.out.size k2.size, fun b hb hne => (k2.block b (Nat.lt_of_lt_of_le hb hle9) (HT.out.2.2 b hb)).trans (G9.out.block b hb hne)⟩); have hcx10 := (M10.out.cell 16).trans (ctxRow_more u A' more.length c' HU.out.1); have hfz10 := M10.out.frozen 16; clear k1 k2 k3))
          have em := ctxRow_put u A' more.length c' HU.out.1 A2 (more.length + 1) c2
          generalize hw11 : w10.setCell _ _ = w11
          have g11 : w10.grownBy w11 (some (G + 2)) := by rw [← hw11]; exact grown_cell _ _ _ _
          have M11 := hidd_ (show Bk w11 (G + 2) 29 (ctxRow u A2 (more.length + 1) c2) by rw [← hw11, ← em]; exact M10.out.set_ 16 _)
          have O11 := hidd_ (O10.out.kept g11 (.inr (fun e => by have := (O10.out.lt _ e).1; omega)))
          have P11 := hidd_ (P10.out.kept g11 (.inr (fun e => by have e' : g = G + 2 := Option.some.inj e; omega)))
          have G11 := hidd_ (World.grownBy.trans G10.out g11)
          have LN := hidd_ (show (more ++ [(⟨dc, dn⟩ : DotV)]).length = more.length + 1 by simp)
          clear g11 hw11 em M10 O10 P10 G10 hcx10 hfz10 M9 O9 P9 G9 RA HT K2 K9
          go_wp2
          go_roundw
          case rel => exact ⟨k + 1, A2, c2, by omega, by go_num, by rw [HR.out]; simp only [LN.out]; exact M11, by rw [HR.out]; simp only [LN.out]; exact O11, P11, G11⟩
          case measure => simp [intOf]; omega
        · have HR := hidd_ (show runX up dd (k + 1) = (u.set i dn, more) by rw [HS2.out]; exact if_pos (of_decide_eq_true heq))
          clear heq heq2
          have em := ctxRow_setup u A' more.length c' i dn HU.out.1 hi16
          go_upto_region 11 with fail
          generalize hw9 : w8.setCell _ _ = w9
          have g9 : w8.grownBy w9 (some (G + 2)) := by rw [← hw9]; exact grown_cell _ _ _ _
          have M9 := hidd_ (show Bk w9 (G + 2) 29 (ctxRow (u.set i dn) A' more.length c') by rw [← hw9, ← em]; exact M8.out.set_ i _)
          have O9 := hidd_ (O8.out.kept g9 (.inr (fun e => by have := (O8.out.lt _ e).1; omega)))
          have P9 := hidd_ (P8.out.kept g9 (.inr (fun e => by have e' : g = G + 2 := Option.some.inj e; omega)))
          have G9 := hidd_ (World.grownBy.trans G8.out g9)
          clear g9 hw9 em M8 O8 P8 G8 hfz hcz
          go_wp2
          go_roundw
          case rel => exact ⟨k + 1, A', c', by omega, by go_num, by rw [HR.out]; exact M9, by rw [HR.out]; exact O9, P9, G9⟩
          case measure => simp [intOf]; omega
      · have HR := hidd_ (show runX up dd (k + 1) = (u, more) by rw [HSI.out]; exact if_pos (of_decide_eq_true hle))
        clear hle
        go_wp2
        go_roundw
        case rel => exact ⟨k + 1, A', c', by omega, by go_num, by rw [HR.out]; exact M7, by rw [HR.out]; exact O7, P7, G7⟩
        case measure => simp [intOf]; omega
    · obtain rfl : k = m := by omega
      have hkl : dd.length = k := by have := HL.out; omega
      have HU := hidd_ (runX_up HUP.out HI.out k (by omega))
      have HRL := hidd_ (runX_len up dd k)
      have H5 := hidd_ (show w.grownBy wr (some g) from ⟨H4.out.os.trans (G5.out.os.trans (B3.out.os.trans X2.out.os)), H4.out.tape.trans (G5.out.tape.trans (B3.out.tape.trans X2.out.tape)), H4.out.output.trans (G5.out.output.trans (B3.out.output.trans X2.out.output)), Nat.le_trans X2.out.size (Nat.le_trans B3.out.size (Nat.le_trans G5.out.size H4.out.size)), fun b hb hne => ((H4.out.block b (by have := X2.out.size; have := B3.out.size; have := G5.out.size; omega) (fun e => by injection e with e; have := HG.out; omega)).trans (G5.out.block b (by have := X2.out.size; have := B3.out.size; omega) hne)).trans ((B3.out.block b (by have := X2.out.size; omega)).trans (X2.out.block b hb))⟩)
      have RZ := hidd_ (R5.out.grown H4.out (fun e => by injection e with e; omega))
      have HST := hidd_ (show (runX up dd k) = runX up (ddN srt n) (ddN srt n).length by rw [HDD.out, hkl])
      obtain ⟨st, hst⟩ : ∃ st, runX up dd k = st := ⟨_, rfl⟩
      rw [hst] at H1 H2 HU HRL HST
      obtain ⟨u, more⟩ := st
      simp only at H1 H2 HU HRL
      obtain ⟨q, hq⟩ : ∃ q, more.length = q := ⟨_, rfl⟩
      rw [hq] at H1 H2 HRL
      have hcx := (H1.out.cell 16).trans (ctxRow_more u A' q c' HU.out.1)
      have RD := hidd_ H2.out.rd.1
      have CP := hidd_ H2.out.cap
      have LT := hidd_ H2.out.lt
      have t0 : (0 : Int) ≤ (q : Int) := by omega
      have hs5 : G + 3 ≤ wr.heap.size := Nat.le_trans hG5 H4.out.size
      have HQ := hidd_ hq
      have IZ := hidd_ (IX.out (List.replicate 16 0) (by simp) none 0 0)
      have IV := hidd_ (IX.out u HU.out.1 A' q c')
      clear hst hq hkl H3 H4 R5 G5 B3 K5 O5 HL HDD K3
      by_cases hl : 32 < q
      · have d1 : decide ((32 : Int) < (q : Int)) = true := decide_eq_true (by omega)
        have HL2 := hidd_ hl
        clear hl
        go_wp2_with (first
          | (refine wpList_built rfl 29 _ rfl (ctxRow (List.replicate 16 0) none 0 0) (by kernel_rfl) ?_)
          | (refine wpList_put_row rfl 29 _ _ rfl (G + 1) (ctxRow (List.replicate 16 0) none 0 0) rfl rfl 29 (ctxRow (List.replicate 16 0) none 0 0) RZ.out IZ.out rfl (ctxRow_one _ _ _ _) ?_; intro W9 k9 g9 s9))
        exact bodyPost_ret (results_cell_slotD Try.results45 _ _ (G + 1) rfl rfl (run_loadVar_row _ _ _ _ _ (0, 0) _ k9 Try.underlying29 rfl IZ.out)) rfl ⟨ctx_end H5.out HG.out g9, srt, HP.out, HS.out, _, HST.out, .inl ⟨by simp only; rw [HQ.out]; exact HL2.out, rfl⟩⟩
      · have d1 : decide ((32 : Int) < (q : Int)) = false := decide_eq_false (by omega)
        have HL2 := hidd_ (show q ≤ 32 by omega)
        clear hl
        go_wp2_with (first
          | (refine wpList_load_row rfl 29 (.tmp 6) rfl (G + 2) rfl 29 (ctxRow u A' q c') (0, 0) _ H1.out Try.underlying29 rfl IV.out ?_)
          | (refine wpList_put_row rfl 29 _ _ rfl (G + 1) (ctxRow u A' q c') rfl rfl 29 (ctxRow (List.replicate 16 0) none 0 0) RZ.out IV.out (by rw [ctxRow_size _ _ _ _ HU.out.1]; rfl) (ctxRow_one _ _ _ _) ?_; intro W9 k9 g9 s9))
        refine bodyPost_ret (results_cell_slotD Try.results45 _ _ (G + 1) (v' := .int .i64 0) rfl rfl (run_loadVar_row _ _ _ _ _ (0, 0) _ k9 Try.underlying29 rfl IV.out)) rfl ⟨ctx_end H5.out HG.out g9, srt, HP.out, HS.out, _, HST.out, .inr ⟨by simp only; rw [HQ.out]; exact HL2.out, A', c', by simp only; rw [HQ.out], ?_, by simp only; rw [HQ.out]; exact CP.out.1, CP.out.2, fun y e => by subst e; have := (LT.out y.block rfl).1; have := X2.out.size; omega⟩⟩
        exact (RD.out.grownR (Nat.le_refl _) g9 (fun _ b off e => by subst e; have := LT.out b rfl; omega)).more (by omega)
end Go.Proofs.Ytjflmfmncepeeaa
