/-
  Contexts in variables; dot.Covers; what Join, Same, Covers, Check and Has tell of them.
-/
import Derived.Test.YtjflmfmncepeeaaJj
namespace Go.Proofs.Ytjflmfmncepeeaa
open Go.ChangeShapes Go.WideShapes Go.ChangeAt Go.RowKit
set_option linter.unusedVariables false
set_option linter.unusedSimpArgs false

/-- A variable that holds a context: where it lies, and what is in it. -/
structure CV where
  p : Nat
  u : List Int
  A : Option Addr
  m : List DotV
  c : Nat
def CV.row (X : CV) : Array Value := ctxRow X.u X.A X.m.length X.c
structure CV.ok (w : World) (X : CV) : Prop where
  rd : RdD w w.heap.size X.A X.m
  len : X.m.length ≤ X.c
  cap : X.c ≤ 9223372036854775807
  up : X.u.length = 16
  few : X.m.length ≤ 400000
structure CV.at (w : World) (X : CV) : Prop where
  bk : Bk w X.p 29 X.row
  ok : X.ok w
theorem CV.ok.below {w w' : World} {X : CV} (h : X.ok w) (hb : Below w.heap.size w w') : X.ok w' := ⟨(h.rd.below hb).more hb.size, h.len, h.cap, h.up, h.few⟩
theorem CV.at.below {w w' : World} {X : CV} (h : X.at w) (hb : Below w.heap.size w w') : X.at w' := ⟨h.bk.below hb h.bk.lt, h.ok.below hb⟩
def AllV (w : World) (l : List CV) : Prop := ∀ X ∈ l, X.at w
theorem AllV.below {w w' : World} {l : List CV} (h : AllV w l) (hb : Below w.heap.size w w') : AllV w' l := fun X hX => (h X hX).below hb
theorem AllV.cons {w : World} {l : List CV} {X : CV} (h : AllV w l) (hX : X.at w) : AllV w (X :: l) := fun Y hY => by
  rcases List.mem_cons.1 hY with e | e
  · subst e; exact hX
  · exact h Y e
theorem CV.info (X : CV) (h : X.u.length = 16) : (Try.prog.info? 29).map (·.size) = some X.row.size := by
  unfold CV.row
  rw [ctxRow_size _ _ _ _ h]; exact iX_
theorem CV.size (X : CV) (h : X.u.length = 16) : X.row.size = 17 := ctxRow_size _ _ _ _ h
theorem CV.one (X : CV) : X.row.all (·.oneCell') = true := ctxRow_one _ _ _ _
def valV (X : CV) : Prop := chk X.u X.m = 0

theorem inS_mx {up up' : List Int} {ms ms' : List DotV} {d : DotV} (hd : isD d = true) : inS (mxN up up' 16) (ms ++ ms') d ↔ inS up ms d ∨ inS up' ms' d := by
  have h := isD_iff.1 hd
  unfold inS
  rw [mxN_at _ _ _ _ (by omega), if_pos (by omega), List.mem_append]
  constructor
  · rintro (g | g | g)
    · rcases Int.le_total (up.getD (d.c - 1).toNat 0) (up'.getD (d.c - 1).toNat 0) with k | k
      · exact .inr (.inl (by omega))
      · exact .inl (.inl (by omega))
    · exact .inl (.inr g)
    · exact .inr (.inr g)
  · rintro ((g | g) | (g | g))
    · exact .inl (by omega)
    · exact .inr (.inl g)
    · exact .inl (by omega)
    · exact .inr (.inr g)
theorem joinV_ex (up : List Int) (hu : up.length = 16) (ms : List DotV) (up' : List Int) (hu' : up'.length = 16) (ms' : List DotV) : ∃ u m z, JoinV up ms up' ms' u m z ∧ u.length = 16 ∧ m.length ≤ 32 := by
  by_cases h : chk up ms = 0 ∧ chk up' ms' = 0
  · have hc := (chk_can hu h.1).1
    have hc' := (chk_can hu' h.2).1
    obtain ⟨u, m, z, hr⟩ := resV_ex (ms := ms ++ ms') (mxN_up hc.up16 hc'.up16 16) fun x hx => by
      rcases List.mem_append.1 hx with g | g
      · exact hc.dots x g
      · exact hc'.dots x g
    refine ⟨u, m, z, .inr ⟨h, hr⟩, ?_⟩
    obtain ⟨st, ho, hr⟩ := hr
    rcases hr with ⟨a, rfl, rfl, rfl⟩ | ⟨a, rfl, rfl, rfl⟩
    · exact ⟨by simp, by simp⟩
    · exact ⟨ho.1.up16.1, a⟩
  · refine ⟨_, _, _, .inl ⟨?_, rfl, rfl, rfl⟩, by simp, by simp⟩
    by_cases h1 : chk up ms = 0
    · exact .inr fun h2 => h ⟨h1, h2⟩
    · exact .inl h1
theorem joinV_one {up up' : List Int} {ms ms' : List DotV} {u u' : List Int} {m m' : List DotV} {z z' : Int} (h : JoinV up ms up' ms' u m z) (h' : JoinV up ms up' ms' u' m' z') : u = u' ∧ m = m' ∧ z = z' := by
  rcases h with ⟨h0, rfl, rfl, rfl⟩ | ⟨h0, h⟩ <;> rcases h' with ⟨h0', rfl, rfl, rfl⟩ | ⟨h0', h'⟩
  · exact ⟨rfl, rfl, rfl⟩
  · rcases h0 with g | g
    · exact absurd h0'.1 g
    · exact absurd h0'.2 g
  · rcases h0' with g | g
    · exact absurd h0.1 g
    · exact absurd h0.2 g
  · exact resV_one h h'
/-- Of two contexts both: the form, and what is in it; or too many. -/
theorem join_is {up up' : List Int} {ms ms' : List DotV} {u : List Int} {m : List DotV} {z : Int} (h1 : chk up ms = 0) (h2 : chk up' ms' = 0) (h : JoinV up ms up' ms' u m z) :
    ∃ st, OfX (mxN up up' 16) (ms ++ ms') st ∧ ((32 < st.2.length ∧ u = List.replicate 16 0 ∧ m = [] ∧ z = 11) ∨ (st.2.length ≤ 32 ∧ u = st.1 ∧ m = st.2 ∧ z = 0)) := by
  rcases h with ⟨h0, _⟩ | ⟨_, h⟩
  · rcases h0 with g | g
    · exact absurd h1 g
    · exact absurd h2 g
  · exact h
theorem join_eq {up up' vp vp' : List Int} {ms ms' ns ns' : List DotV} {u v : List Int} {m k : List DotV} {z y : Int} (h1 : chk up ms = 0) (h2 : chk up' ms' = 0) (h3 : chk vp ns = 0) (h4 : chk vp' ns' = 0) (h : JoinV up ms up' ms' u m z) (h' : JoinV vp ns vp' ns' v k y)
    (hs : ∀ d, isD d = true → ((inS up ms d ∨ inS up' ms' d) ↔ (inS vp ns d ∨ inS vp' ns' d))) : u = v ∧ m = k ∧ z = y := by
  obtain ⟨st, ho, hr⟩ := join_is h1 h2 h
  obtain ⟨st', ho', hr'⟩ := join_is h3 h4 h'
  obtain rfl := ho.one ho' fun d hd => by rw [inS_mx hd, inS_mx hd]; exact hs d hd
  rcases hr with ⟨a, rfl, rfl, rfl⟩ | ⟨a, rfl, rfl, rfl⟩ <;> rcases hr' with ⟨b, rfl, rfl, rfl⟩ | ⟨b, rfl, rfl, rfl⟩
  · exact ⟨rfl, rfl, rfl⟩
  · omega
  · omega
  · exact ⟨rfl, rfl, rfl⟩
theorem join_set {up up' : List Int} {ms ms' : List DotV} {u : List Int} {m : List DotV} (h1 : chk up ms = 0) (h2 : chk up' ms' = 0) (h : JoinV up ms up' ms' u m 0) : chk u m = 0 ∧ ∀ d, isD d = true → (inS u m d ↔ inS up ms d ∨ inS up' ms' d) := by
  obtain ⟨st, ho, hr⟩ := join_is h1 h2 h
  rcases hr with ⟨_, _, _, a⟩ | ⟨a, rfl, rfl, _⟩
  · cases a
  · exact ⟨can_chk ho.1 a, fun d hd => (ho.2 d hd).trans (inS_mx hd)⟩
theorem join_err {up up' : List Int} {ms ms' : List DotV} {u : List Int} {m : List DotV} {z : Int} (h1 : chk up ms = 0) (h2 : chk up' ms' = 0) (h : JoinV up ms up' ms' u m z) : z = 0 ∨ z = 11 := by
  obtain ⟨st, ho, hr⟩ := join_is h1 h2 h
  rcases hr with ⟨_, _, _, a⟩ | ⟨a, rfl, rfl, b⟩
  · exact .inr a
  · exact .inl b
/-- With what it has already, a context stays. -/
theorem join_into {up up' : List Int} {ms ms' : List DotV} {u : List Int} {m : List DotV} {z : Int} (hu : up.length = 16) (h1 : chk up ms = 0) (h2 : chk up' ms' = 0) (h : JoinV up ms up' ms' u m z) (hs : ∀ d, isD d = true → inS up' ms' d → inS up ms d) : u = up ∧ m = ms ∧ z = 0 := by
  obtain ⟨st, ho, hr⟩ := join_is h1 h2 h
  obtain ⟨hc, hl⟩ := chk_can hu h1
  obtain ⟨e1, e2⟩ := can_unique ho.1 hc fun d hd => by
    rw [ho.2 d hd, inS_mx hd]
    exact ⟨fun g => g.elim id (hs d hd), .inl⟩
  rcases hr with ⟨a, _⟩ | ⟨a, rfl, rfl, rfl⟩
  · rw [e2] at a; omega
  · exact ⟨e1, e2, rfl⟩
/-- What Covers tells. -/
def covB (up : List Int) (ms : List DotV) (u : List Int) (m : List DotV) (z : Int) : Bool := decide (z = 0) && sameR u up m ms
theorem sameR_iff {u u' : List Int} {m m' : List DotV} : sameR u u' m m' = true ↔ u = u' ∧ m = m' := by unfold sameR; simp
theorem covB_iff {up up' : List Int} {ms ms' : List DotV} {u : List Int} {m : List DotV} {z : Int} (hu : up.length = 16) (h1 : chk up ms = 0) (h2 : chk up' ms' = 0) (h : JoinV up ms up' ms' u m z) : covB up ms u m z = true ↔ ∀ d, isD d = true → inS up' ms' d → inS up ms d := by
  unfold covB
  rw [Bool.and_eq_true, decide_eq_true_iff, sameR_iff]
  constructor
  · rintro ⟨rfl, rfl, rfl⟩ d hd g
    exact ((join_set h1 h2 h).2 d hd).2 (.inr g)
  · intro hs
    obtain ⟨a, b, c⟩ := join_into hu h1 h2 h hs
    exact ⟨c, a, b⟩

theorem joinC (w : World) (X Y : CV) (hX : X.ok w) (hY : Y.ok w) {u : List Int} {m : List DotV} {z : Int} (hv : JoinV X.u X.m Y.u Y.m u m z) :
    Calls Try.prog 24 #[.agg X.row, .agg Y.row] w (TwoV u m z w) := by
  refine (join_any w X.u hX.up X.A X.m.length X.c X.m rfl hX.few hX.len hX.rd Y.u hY.up Y.A Y.m.length Y.c Y.m rfl hY.few hY.len hY.rd).mono ?_
  rintro e w' ⟨u', m', A', c', z', rfl, h1, h2, h3, h4, h5, h6, h7⟩
  obtain ⟨rfl, rfl, rfl⟩ := joinV_one h6 hv
  exact ⟨A', c', rfl, h1, h2, h3, h4, h7⟩
theorem addC (w : World) (X : CV) (hX : X.ok w) (d : DotV) {u : List Int} {m : List DotV} {z : Int} (hv : AddV X.u X.m d u m z) :
    Calls Try.prog 26 #[.agg X.row, .agg d.row] w (TwoV u m z w) := add_v w X.u hX.up X.A X.m.length X.c X.m rfl (by have := hX.few; omega) hX.len hX.rd d hv
theorem sameC (w : World) (X Y : CV) (hX : X.ok w) (hY : Y.ok w) :
    Calls Try.prog 30 #[.agg X.row, .agg Y.row] w fun e w' => e = .returned (.bool (sameR X.u Y.u X.m Y.m)) ∧ Below w.heap.size w w' :=
  same_ctx w X.u hX.up X.A X.m.length X.c X.m rfl (by have := hX.few; omega) hX.rd Y.u hY.up Y.A Y.m.length Y.c Y.m rfl (by have := hY.few; omega) hY.rd
theorem checkC (w : World) (X : CV) (hX : X.ok w) : Calls Try.prog 16 #[.agg X.row] w fun e w' => e = .returned (.int .i64 (chk X.u X.m)) ∧ Below w.heap.size w w' :=
  check_any w X.u hX.up X.A X.m.length X.c X.m rfl (by have := hX.few; omega) hX.len hX.rd
theorem hasC (w : World) (X : CV) (hX : X.ok w) (d : DotV) : Calls Try.prog 17 #[.agg X.row, .agg d.row] w fun e w' => e = .returned (.bool (hasR X.u X.m d)) ∧ Below w.heap.size w w' :=
  has_any_ w X.u hX.up X.A X.m.length X.c X.m rfl (by have := hX.few; omega) hX.len hX.rd d

set_option maxRecDepth 100000 in
set_option maxHeartbeats 2000000 in
theorem coversC (w : World) (X Y : CV) (hX : X.ok w) (hY : Y.ok w) {u : List Int} {m : List DotV} {z : Int} (hv : JoinV X.u X.m Y.u Y.m u m z) (hul : u.length = 16) (hml : m.length ≤ 32) :
    Calls Try.prog 28 #[.agg X.row, .agg Y.row] w fun e w' => e = .returned (.bool (covB X.u X.m u m z)) ∧ Below w.heap.size w w' := by
  obtain ⟨g, hg⟩ : ∃ g, w.heap.size = g := ⟨_, rfl⟩
  obtain ⟨wa, hwa⟩ : ∃ w0, w.alloc (.cells X.row 29) = w0 := ⟨_, rfl⟩
  have Ka := show Bk wa g 29 X.row by rw [← hwa, ← hg]; exact Bk.new w _ _
  have Xa := show Below g w wa by rw [← hwa, ← hg]; exact (Below.refl _ _).alloc (Nat.le_refl _) _
  have Sa : wa.heap.size = g + 1 := by rw [← hwa, ← hg]; simp
  obtain ⟨w0, hw0⟩ : ∃ w0, wa.alloc (.cells Y.row 29) = w0 := ⟨_, rfl⟩
  have b0 : Below wa.heap.size wa w0 := by rw [← hw0]; exact (Below.refl _ _).alloc (Nat.le_refl _) _
  have D0 := hidd_ (show Bk w0 (g + 1) 29 Y.row by rw [← Sa, ← hw0]; exact Bk.new wa _ _)
  have K0 := hidd_ (Ka.below b0 Ka.lt)
  have X0 := hidd_ (Xa.trans (b0.mono (by omega)))
  have hX0 : X.ok w0 := hX.below (by rw [hg]; exact X0.out)
  have hY0 : Y.ok w0 := hY.below (by rw [hg]; exact X0.out)
  have cj := joinC w0 X Y hX0 hY0 hv
  have hz := zX_
  have HG := hidd_ hg
  have HX := hidd_ hX0
  have HY := hidd_ hY0
  have HUL := hidd_ hul
  have HML := hidd_ hml
  have IZ := hidd_ (fun A c => (show (Try.prog.info? 29).map (·.size) = some (ctxRow u A m.length c).size by rw [ctxRow_size _ _ _ _ HUL.out]; exact iX_))
  have HZ := hidd_ (show covB X.u X.m u m z = (decide (z = 0) && sameR u X.u m X.m) from rfl)
  obtain ⟨r, hr⟩ : ∃ r, covB X.u X.m u m z = r := ⟨_, rfl⟩
  have HR := hidd_ hr
  rw [hr]
  clear hX hY hX0 hY0 hv hul hml hr Ka Xa b0
  go_enter Try.func28, Try.ntmps28
  go_upto_region 1 with fail
  clear hw0 hwa Sa hg
  go_upto_region 2 with (first
    | (refine wpList_load_row rfl 29 (.tmp 2) rfl g rfl 29 X.row (0, 0) _ K0.out Try.underlying29 rfl (X.info HX.out.up) ?_)
    | (refine wpList_load_row rfl 29 (.tmp 3) rfl (g + 1) rfl 29 Y.row (0, 0) _ D0.out Try.underlying29 rfl (Y.info HY.out.up) ?_)
    | (go_at_call 24; ((with_reducible refine cj.mono ?_); clear cj; rintro e w1 ⟨A1, c1, rfl, h1, h2, h3, h4, h5⟩; unfold TwoX; have X1 := hidd_ (X0.out.trans (h5.mono (Nat.le_of_lt K0.out.lt))); have K1 := hidd_ (K0.out.below h5 K0.out.lt); have HX1 := hidd_ (HX.out.below h5); have R1 := hidd_ h1; have C1 := hidd_ (And.intro h3 h4); clear h1 h2 h3 h4 h5))
    | (refine wpList_put_row rfl 29 _ _ rfl w1.heap.size (ctxRow u A1 m.length c1) rfl rfl 29 (ctxRow (List.replicate 16 0) none 0 0) (Bk.new w1 _ _) (IZ.out _ _) (by rw [ctxRow_size _ _ _ _ HUL.out]; rfl) (ctxRow_one _ _ _ _) ?_; intro w2 k2 g2 s2; have B2 := hidd_ (((Below.refl w1.heap.size w1).alloc (Nat.le_refl _) (.cells (ctxRow (List.replicate 16 0) none 0 0) 29)).grown g2 (by simp) (fun k hk => by injection hk with hk; omega)); have K2 := hidd_ k2; clear k2 g2 s2))
  have hg1 : g < w1.heap.size := K1.out.lt
  have X2 := hidd_ (X1.out.trans (B2.out.mono (Nat.le_of_lt hg1)))
  have KX := hidd_ (K1.out.below B2.out K1.out.lt)
  have HX2 := hidd_ (HX1.out.below B2.out)
  have HP2 := hidd_ (show (⟨w1.heap.size, u, A1, m, c1⟩ : CV).ok w2 from ⟨(R1.out.below B2.out).more B2.out.size, C1.out.1, C1.out.2, HUL.out, (show m.length ≤ 400000 by have := HML.out; omega)⟩)
  have hg2 : g < w2.heap.size := KX.out.lt
  generalize w1.heap.size = p at *
  have K2' := hidd_ (show Bk w2 p 29 (CV.row ⟨p, u, A1, m, c1⟩) from K2.out)
  have cs := sameC w2 ⟨p, u, A1, m, c1⟩ X HP2.out HX2.out
  have IP := hidd_ (CV.info ⟨p, u, A1, m, c1⟩ HUL.out)
  obtain ⟨bs, hbs⟩ : ∃ b, sameR u X.u m X.m = b := ⟨_, rfl⟩
  rw [show sameR (CV.u ⟨p, u, A1, m, c1⟩) X.u (CV.m ⟨p, u, A1, m, c1⟩) X.m = bs from hbs] at cs
  have HB := hidd_ hbs
  clear K0 X0 K1 X1 B2 K2 HX1 R1 hbs
  by_cases hz0 : z = 0
  · subst hz0
    have HQ := hidd_ (show r = bs by rw [← HR.out, HZ.out, HB.out]; simp)
    go_wp2_with (first
      | (refine wpList_load_rowWd (by go_simp) 29 (.tmp 5) rfl p rfl 29 (CV.row ⟨p, u, A1, m, c1⟩) K2'.out _ Try.underlying29 rfl IP.out ?_)
      | (refine wpList_load_rowWd (by go_simp) 29 (.tmp 2) rfl g rfl 29 X.row KX.out _ Try.underlying29 rfl (X.info HX.out.up) ?_)
      | (go_at_call 30; ((with_reducible refine cs.mono ?_); clear cs; rintro e w3 ⟨rfl, hb⟩; have X3 := hidd_ (X2.out.trans (hb.mono (Nat.le_of_lt hg2))); clear hb)))
    go_ret
    exact ⟨by rw [HQ.out]; rfl, by rw [HG.out]; exact X3.out⟩
  · have b1 : (z == 0) = false := by simpa using hz0
    have HQ := hidd_ (show r = false by rw [← HR.out, HZ.out, decide_eq_false hz0]; rfl)
    clear hz0
    go_wp2
    go_ret
    exact ⟨by rw [HQ.out]; rfl, by rw [HG.out]; exact X2.out⟩
end Go.Proofs.Ytjflmfmncepeeaa
