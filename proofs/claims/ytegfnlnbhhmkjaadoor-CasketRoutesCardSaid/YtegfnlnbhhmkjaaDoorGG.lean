/-
  Merged: G3 G4 G5 G6 G7.
-/
import Derived.Test.YtegfnlnbhhmkjaaDoorG2
import Derived.Test.YtegfnlnbhhmkjaaDoorFj
import Derived.BigQuiet
namespace Go.Proofs.YtegfnlnbhhmkjaaDoor
set_option maxRecDepth 100000
open Go.RowKit
set_option linter.unusedVariables false
set_option linter.unusedSimpArgs false
/-- What an Out with memory behind it is. -/
structure OutN (w : World) (g : Nat) (l : List UInt8) (bad wrong : Bool) (F : List Nat) (h : Nat) (A : Option Addr) (n c : Nat) : Prop where
  gF : g ∈ F
  hF : h ∈ F
  ne : h ≠ g
  head : Bk w g 75 #[.pointer (some ⟨h, 0, none⟩), .int .i64 (n : Int), .bool bad, .bool wrong]
  mid : Bk w h 39 #[.slice A n c]
  own : Own8 w 0 (.slice A n c) l
  far : ∀ b, (Value.slice A n c).ownBlock = some b → b ∈ F ∧ b ≠ g ∧ b ≠ h
theorem OutN.born {wd w' : World} {g N z q3 : Nat} {bad wrong : Bool} {F : List Nat} {A3 : Option Addr} (hg : g ∈ F) (hN : w'.heap.size = N) (hB : Bk wd g 75 #[.pointer none, .int .i64 (z : Int), .bool bad, .bool wrong])
    (ho : Own8 w' wd.heap.size (.slice A3 z q3) []) (hb : Below wd.heap.size wd w') :
    OutN ((w'.alloc (.cells #[.slice A3 z q3] 39)).setCell ⟨g, 0, none⟩ (.pointer (some ⟨N, 0, none⟩))) g [] bad wrong (N :: ((Value.slice A3 z q3).ownBlock.toList ++ F)) N A3 z q3 ∧
      Grew wd F (N :: ((Value.slice A3 z q3).ownBlock.toList ++ F)) ∧ Untouched F wd ((w'.alloc (.cells #[.slice A3 z q3] 39)).setCell ⟨g, 0, none⟩ (.pointer (some ⟨N, 0, none⟩))) := by
  subst hN
  have hgl := hB.lt
  have hs := hb.size
  have hne : g ≠ w'.heap.size := by omega
  obtain ⟨_, _, _, _, hbd⟩ := ho.form
  have hG : Grew wd F (w'.heap.size :: ((Value.slice A3 z q3).ownBlock.toList ++ F)) := by
    intro k hk
    rcases List.mem_cons.1 hk with e | hk
    · exact .inr (by omega)
    · rcases List.mem_append.1 hk with hk | hk
      · have e : (Value.slice A3 z q3).ownBlock = some k := by simpa using hk
        exact .inr (hbd k e).1
      · exact .inl hk
  refine ⟨⟨by simp [hg], by simp, fun e => hne e.symm, ?_, ?_, ?_, ?_⟩, hG, ?_⟩
  · exact ((hB.below hb hgl).alloc (.cells #[.slice A3 z q3] 39)).set_ 0 (.pointer (some ⟨w'.heap.size, 0, none⟩))
  · exact (Bk.new w' 39 #[.slice A3 z q3]).far (p := ⟨g, 0, none⟩) (fun e => hne e.symm) _
  · have h1 := (ho.lower (Nat.zero_le _)).alloc (.cells #[.slice A3 z q3] 39)
    exact h1.kept (grown_put (World.grownBy.refl _ (some g)) 0 _) (by
      cases hv : (Value.slice A3 z q3).ownBlock with
      | none => exact .inl rfl
      | some b => exact .inr (by have := (hbd b hv).1; intro e; injection e with e; omega))
  · intro b hv
    have := hbd b hv
    exact ⟨by simp [hv], by omega, by omega⟩
  · refine (Untouched.of_below hb).trans hG ((Untouched.alloc _).trans (Grew.refl _ _) (Untouched.set g 0 (by simp [hg]) _))
theorem OutN.last {wc w6 : World} {g h z c2 m1 c1 : Nat} {bad wrong : Bool} {F2 : List Nat} {A2 A1 : Option Addr} {l l' : List UInt8} (hN : OutN wc g l bad wrong F2 h A2 z c2) (hu : Untouched F2 wc w6)
    (hhd : Bk w6 g 75 #[.pointer (some ⟨h, 0, none⟩), .int .i64 (z : Int), .bool bad, .bool wrong]) (hm6 : Bk w6 h 39 #[.slice A1 m1 c1]) (ho : Own8 w6 0 (.slice A1 m1 c1) l')
    (hb : (Value.slice A1 m1 c1).ownBlock = (Value.slice A2 z c2).ownBlock ∨ ∃ k, (Value.slice A1 m1 c1).ownBlock = some k ∧ wc.heap.size ≤ k) :
    OutN (w6.setCell ⟨g, 1, none⟩ (.int .i64 (m1 : Int))) g l' bad wrong ((Value.slice A1 m1 c1).ownBlock.toList ++ F2) h A1 m1 c1 ∧ Grew wc F2 ((Value.slice A1 m1 c1).ownBlock.toList ++ F2) ∧ Untouched F2 wc (w6.setCell ⟨g, 1, none⟩ (.int .i64 (m1 : Int))) := by
  have hgl := hN.head.lt
  have hhl := hN.mid.lt
  have hfar : ∀ b, (Value.slice A1 m1 c1).ownBlock = some b → (b ∈ F2 ∨ wc.heap.size ≤ b) ∧ b ≠ g ∧ b ≠ h := by
    intro b hv
    rcases hb with h1 | ⟨k, h1, h2⟩
    · rw [h1] at hv
      have := hN.far b hv
      exact ⟨.inl this.1, this.2⟩
    · rw [h1] at hv
      injection hv with hv
      exact ⟨.inr (by omega), by omega, by omega⟩
  refine ⟨⟨by simp [hN.gF], by simp [hN.hF], hN.ne, ?_, hm6.far (p := ⟨g, 1, none⟩) hN.ne _, ?_, ?_⟩, ?_, hu.trans (Grew.refl _ _) (Untouched.set g 1 hN.gF _)⟩
  · exact hhd.set_ 1 (.int .i64 (m1 : Int))
  · exact ho.kept (grown_put (World.grownBy.refl _ (some g)) 1 _) (by
      cases hv : (Value.slice A1 m1 c1).ownBlock with
      | none => exact .inl rfl
      | some b => exact .inr (by have := (hfar b hv).2.1; intro e; injection e with e; omega))
  · intro b hv
    exact ⟨by simp [hv], (hfar b hv).2⟩
  · intro k hk
    rcases List.mem_append.1 hk with hk | hk
    · have e : (Value.slice A1 m1 c1).ownBlock = some k := by simpa using hk
      exact (hfar k e).1
    · exact .inl hk
/-- What each operation leaves. -/
def PutR (g h : Nat) (A : Option Addr) (n c : Nat) (X : Option Addr) (m k : Nat) : Nat → Value → Prop
  | 0, v => v = .pointer (some ⟨g, 0, none⟩)
  | 1, v => v = .pointer (some ⟨g, 0, none⟩)
  | 2, v => v = .pointer (some ⟨g, 0, none⟩)
  | 3, v => v = .pointer (some ⟨h, 0, none⟩)
  | 4, v => v = .pointer (some ⟨g, 0, none⟩)
  | 5, v => v = .pointer (some ⟨g, 0, none⟩)
  | 6, v => v = .pointer (some ⟨g, 0, none⟩)
  | 7, v => v = .pointer (some ⟨h, 0, none⟩)
  | 8, v => v = .pointer (some ⟨h, 0, none⟩)
  | 9, v => v = .slice A n c
  | 10, v => v = .slice X m k
  | 12, v => v = .pointer (some ⟨h, 0, none⟩)
  | _, _ => True
/-- What holds of them together. -/
structure PutJ (N h : Nat) (A : Option Addr) (n c : Nat) (l x : List UInt8) (L : Nat → Bool) (a : Act) (w : World) : Prop where
  o9 : L 11 = true → L 9 = true
  o11 : L 13 = true → L 11 = true
  mid : L 13 = false → Bk w h 39 #[.slice A n c]
  own : L 11 = false → Own8 w 0 (.slice A n c) l
  new : L 11 = true → ∃ A1 m1 c1, a.tmps.getD 43 undef = .slice A1 m1 c1 ∧ Own8 w 0 (.slice A1 m1 c1) (l ++ x) ∧ ((Value.slice A1 m1 c1).ownBlock = (Value.slice A n c).ownBlock ∨ ∃ k, (Value.slice A1 m1 c1).ownBlock = some k ∧ N ≤ k)
  put : L 13 = true → Bk w h 39 #[a.tmps.getD 43 undef]
theorem PutJ.same {N h : Nat} {A : Option Addr} {n c : Nat} {l x : List UInt8} {L : Nat → Bool} {a : Act} {w : World} (hJ : PutJ N h A n c l x L a w) (i : Nat) (h11 : i ≠ 11) (h13 : i ≠ 13) (d : Option Nat) (v : Value) (hd : d ≠ some 43) :
    PutJ N h A n c l x (fun j => decide (j = i) || L j) (a.put d v) w := by
  have e11 := orf_ne (L := L) (i := i) (fun e : 11 = i => h11 e.symm)
  have e13 := orf_ne (L := L) (i := i) (fun e : 13 = i => h13 e.symm)
  have s43 := put_getD_ne a d v 43 hd
  obtain ⟨o9, o11, mid, own, new, put⟩ := hJ
  refine ⟨?_, ?_, ?_, ?_, ?_, ?_⟩ <;> simp only [e11, e13, s43]
  · intro hl
    rw [o9 hl]
    simp
  · exact o11
  · exact mid
  · exact own
  · exact new
  · exact put
theorem PutJ.start {N h : Nat} {A : Option Addr} {n c : Nat} {l x : List UInt8} {a : Act} {w : World} (hm : Bk w h 39 #[.slice A n c]) (ho : Own8 w 0 (.slice A n c) l) : PutJ N h A n c l x (fun _ => false) a w :=
  ⟨fun e => Bool.noConfusion e, fun e => Bool.noConfusion e, fun _ => hm, fun _ => ho, fun e => Bool.noConfusion e, fun e => Bool.noConfusion e⟩
theorem PutJ.app {N h : Nat} {A : Option Addr} {n c : Nat} {l x : List UInt8} {L : Nat → Bool} {a : Act} {w w' : World} (hJ : PutJ N h A n c l x L a w) (hL : L 11 = false) (h9 : L 9 = true) (hsz : 43 < a.tmps.size) (A1 : Option Addr) (m1 c1 : Nat)
    (ho : Own8 w' 0 (.slice A1 m1 c1) (l ++ x)) (hb : (Value.slice A1 m1 c1).ownBlock = (Value.slice A n c).ownBlock ∨ ∃ k, (Value.slice A1 m1 c1).ownBlock = some k ∧ N ≤ k) (hm : Bk w h 39 #[.slice A n c] → Bk w' h 39 #[.slice A n c]) :
    PutJ N h A n c l x (fun j => decide (j = 11) || L j) (a.put (some 43) (.slice A1 m1 c1)) w' := by
  have e9 := orf_ne (L := L) (show 9 ≠ 11 by omega)
  have e13 := orf_ne (L := L) (show 13 ≠ 11 by omega)
  have s43 := put_getD_eq a (.slice A1 m1 c1) 43 hsz
  obtain ⟨o9, o11, mid, own, new, put⟩ := hJ
  have h13 : L 13 = false := by
    cases h : L 13 with
    | false => rfl
    | true => rw [hL] at o11; exact absurd (o11 h) (by decide)
  refine ⟨?_, ?_, ?_, ?_, ?_, ?_⟩ <;> simp only [e9, e13, s43]
  · exact fun _ => h9
  · exact fun _ => by simp
  · exact fun h => hm (mid h)
  · intro h; simp at h
  · exact fun _ => ⟨A1, m1, c1, rfl, ho, hb⟩
  · intro h; rw [h13] at h; cases h
theorem PutJ.store {N h : Nat} {A : Option Addr} {n c : Nat} {l x : List UInt8} {L : Nat → Bool} {a : Act} {w w' : World} (hJ : PutJ N h A n c l x L a w) (h11 : L 11 = true)
    (hm : Bk w' h 39 #[a.tmps.getD 43 undef]) (hk : ∀ v, Own8 w 0 v (l ++ x) → v.ownBlock ≠ some h → Own8 w' 0 v (l ++ x)) (hne : ∀ A1 m1 c1, ((Value.slice A1 m1 c1).ownBlock = (Value.slice A n c).ownBlock ∨ ∃ k, (Value.slice A1 m1 c1).ownBlock = some k ∧ N ≤ k) → (Value.slice A1 m1 c1).ownBlock ≠ some h) :
    PutJ N h A n c l x (fun j => decide (j = 13) || L j) (a.put none undef) w' := by
  have e9 := orf_ne (L := L) (show 9 ≠ 13 by omega)
  have e11 := orf_ne (L := L) (show 11 ≠ 13 by omega)
  have s43 := put_getD_ne a none undef 43 (by decide)
  obtain ⟨o9, o11, mid, own, new, put⟩ := hJ
  refine ⟨?_, ?_, ?_, ?_, ?_, ?_⟩ <;> simp only [e9, e11, s43]
  · exact o9
  · exact fun _ => h11
  · intro h; simp at h
  · intro h; rw [h11] at h; cases h
  · intro h
    obtain ⟨A1, m1, c1, e, ho, hb⟩ := new h
    exact ⟨A1, m1, c1, e, hk _ ho (hne _ _ _ hb), hb⟩
  · exact fun _ => hm
end Go.Proofs.YtegfnlnbhhmkjaaDoor

namespace Go.Proofs.YtegfnlnbhhmkjaaDoor
set_option maxRecDepth 100000
open Go.RowKit
set_option linter.unusedVariables false
set_option linter.unusedSimpArgs false

theorem OutF.outN {w : World} {g : Nat} {l : List UInt8} {bad wrong : Bool} {F : List Nat} {h : Nat} {A : Option Addr} {n c : Nat} (hn : l.length = n) (hO : OutN w g l bad wrong F h A n c) : OutF w g l bad wrong F := by
  subst hn
  exact ⟨hO.gF, _, hO.head, .inr ⟨h, A, c, rfl, hO.hF, hO.ne, hO.mid, hO.own, hO.far⟩⟩
theorem OutN.keep {w w' : World} {g : Nat} {l : List UInt8} {bad wrong : Bool} {F : List Nat} {h : Nat} {A : Option Addr} {n c : Nat} (hO : OutN w g l bad wrong F h A n c) (hb : Below w.heap.size w w') : OutN w' g l bad wrong F h A n c :=
  ⟨hO.gF, hO.hF, hO.ne, hO.head.below hb hO.head.lt, hO.mid.below hb hO.mid.lt, hO.own.below hb (Nat.le_refl _), hO.far⟩

set_option maxRecDepth 100000 in
set_option maxHeartbeats 4000000 in
theorem put_any (w : World) (g : Nat) (l : List UInt8) (bad wrong : Bool) (F : List Nat) (A : Option Addr) (n c : Nat) (m : List UInt8) (h : OutF w g l bad wrong F) (hr : RdF w F A m) (hm : m.length = n) (hs : l.length + n ≤ 140737488355328) :
    Calls Tryd.prog 73 #[.pointer (some ⟨g, 0, none⟩), .slice A n c] w (OutP w g (l ++ m) bad wrong F) := by
  obtain ⟨z, hz⟩ : ∃ z, l.length = z := ⟨_, rfl⟩
  have HZ := hidg_ hz
  have HM := hidg_ hm
  have HR := hidg_ hr
  obtain ⟨hg, all, hb, hor⟩ := id h
  rw [hz] at hb
  have HO := hidg_ h
  have hc0 := hb.cell 0
  have hc1 := hb.cell 1
  simp only [List.getElem?_toArray, List.getElem?_cons_zero, List.getElem?_cons_succ] at hc0 hc1
  have HB := hidg_ hb
  rw [hz] at hs
  clear hb h hz hm hr
  go_enter Tryd.func73, Tryd.ntmps73
  go_upto_region 3 with fail
  go_cut [26] (fun s26 wx => ∃ b, s26 = .bool b ∧ (∃ nq, wx = w.drewN nq) ∧ ((b = true ∧ all = .pointer none ∧ l = []) ∨ (b = false ∧ ∃ h A c, OutN w g l bad wrong F h A z c)))
  case first =>
    rcases hor with ⟨rfl, rfl⟩ | ⟨h, A2, c2, rfl, hF, hne, hbk, ho, hown⟩
    · go_quiet (fail)
      go_wp2
      go_meet
      exact ⟨true, rfl, ⟨_, rfl⟩, .inl ⟨rfl, trivial, trivial⟩⟩
    · have hz := HZ.out
      rw [hz] at hbk ho hown
      have hh := hbk.cell 0
      simp only [List.getElem?_toArray, List.getElem?_cons_zero] at hh
      have hlt : decide ((z : Int) < (z : Int)) = false := by simp
      have HN : Hid (OutN w g l bad wrong F h A2 z c2) := hidg_ ⟨hg, hF, hne, HB.out, hbk, ho, hown⟩
      clear hbk ho hown hz
      go_quiet (fail)
      go_wp2
      go_meet
      exact ⟨false, rfl, ⟨_, rfl⟩, .inr ⟨rfl, _, _, _, HN.out⟩⟩
  case rest =>
    obtain ⟨b, rfl, ⟨nq, rfl⟩, hcase⟩ := hcut
    rename_i K1 hK1 K2 hK2
    refine hK2 _ _ ?_
    go_cut [] (fun wx => ∃ h A2 c2 F2, Hid (OutN wx g l bad wrong F2 h A2 z c2) ∧ Hid (Grew w F F2) ∧ Hid (Untouched F w wx))
    case first =>
      rcases hcase with ⟨rfl, rfl, rfl⟩ | ⟨rfl, h, A2, c2, HN⟩
      · have HBn := hidg_ (HB.out.drewN nq)
        have co := own_any (w.drewN nq) g z [] bad wrong F ⟨hg, _, by rw [HZ.out]; exact HBn.out, .inl ⟨rfl, rfl⟩⟩ HZ.out (by omega)
        have HW := hidg_ (Untouched.drewN (F := F) (w := w) nq)
        have HS := hidg_ (show (w.drewN nq).heap.size = w.heap.size from rfl)
        clear hor HO HB hc0 hc1
        generalize w.drewN nq = wd at *
        go_wp2_with ((go_at_call 74; ((with_reducible refine co.mono ?_); rintro e w' ⟨A3, q3, rfl, ho, hb⟩; have hO3 := hidg_ ho; have HB3 := hidg_ hb; have hgl := HBn.out.lt; have hb4 := (HBn.out.below hb hgl).alloc (.cells #[.slice A3 z q3] 39); have hc4 := hb4.cell 0; have hf4 := hb4.frozen 0; clear hb4 ho hb)))
        go_meet
        obtain ⟨hN, hG, hU⟩ := OutN.born hg rfl HBn.out hO3.out HB3.out
        exact ⟨_, _, _, _, hidg_ hN, hidg_ ((Grew.refl w F).trans HW.out.size hG), hidg_ (HW.out.trans (Grew.refl _ _) hU)⟩
      · go_wp2
        go_meet
        exact ⟨h, A2, c2, F, hidg_ (HN.keep (below_drewN (Below.refl w.heap.size w) nq)), hidg_ (Grew.refl _ _), hidg_ (Untouched.drewN nq)⟩
    case rest =>
      obtain ⟨h, A2, c2, F2, HN, HG, HU⟩ := hcut
      have HX := hidg_ (HR.out.keep HU.out HG.out)
      refine hK1 _ _ ?_
      clear hK1 hK2 hcase hor hc0 hc1 HO HB
      go_upto_region 6 with fail
      have hZ := HZ.out
      refine region_byJF [32, 33, 34, 35, 36, 37, 38, 39, 40, 41, 42, 43, 44] (fun W => Untouched F2 wc W ∧ Bk W g 75 #[.pointer (some ⟨h, 0, none⟩), .int .i64 (z : Int), .bool bad, .bool wrong]) (fun _ _ => True) (fun j v _ => PutR g h A2 z c2 A n c j v) (PutJ wc.heap.size h A2 z c2 l m) (by kernel_rfl) (by kernel_rfl) (by kernel_rfl) (by kernel_rfl) (fun j v w w' _ hr => ?_) (fun j v w hlt hj _ => ?_) ⟨Untouched.drewN 1, HN.out.head.drewN 1⟩ ?_ (PutJ.start (HN.out.mid.drewN 1) (HN.out.own.drewN 1)) ?_
      · exact hr
      · rcases j with _ | _ | _ | _ | _ | _ | _ | _ | _ | _ | _ | _ | _ | _ | j
        all_goals first
          | (exfalso; simp [dstOf] at hj; done)
          | trivial
      · refine ⟨fun L a w hC hd hsz hf hv hJ hL hW K hK => ?_, fun L a w hC hd hsz hf hv hJ hL hW K hK => ?_, fun L a w hC hd hsz hf hv hJ hL hW K hK => ?_, fun L a w hC hd hsz hf hv hJ hL hW K hK => ?_, fun L a w hC hd hsz hf hv hJ hL hW K hK => ?_, fun L a w hC hd hsz hf hv hJ hL hW K hK => ?_, fun L a w hC hd hsz hf hv hJ hL hW K hK => ?_, fun L a w hC hd hsz hf hv hJ hL hW K hK => ?_, fun L a w hC hd hsz hf hv hJ hL hW K hK => ?_, fun L a w hC hd hsz hf hv hJ hL hW K hK => ?_, fun L a w hC hd hsz hf hv hJ hL hW K hK => ?_, fun L a w hC hd hsz hf hv hJ hL hW K hK => ?_, fun L a w hC hd hsz hf hv hJ hL hW K hK => ?_, fun L a w hC hd hsz hf hv hJ hL hW K hK => ?_, trivial⟩
        · clear hsz
          have e1 := slot_of (a := a) (s := 0) (v := .pointer (some ⟨g, 0, none⟩)) (hf 0 (by kernel_rfl))
          refine step_run (wanted_none rfl) (v := .pointer (some ⟨g, 0, none⟩)) (w' := w) ?_ (hK _ _ hC trivial rfl (hJ.same 0 (by decide) (by decide) _ _ (by decide)))
          go_simp
        · clear hsz
          have e1 := slot_of (a := a) (s := 32) (v := .pointer (some ⟨g, 0, none⟩)) (hv 0 (by kernel_rfl))
          refine step_run (wanted_none rfl) (v := .pointer (some ⟨g, 0, none⟩)) (w' := w) ?_ (hK _ _ hC trivial rfl (hJ.same 1 (by decide) (by decide) _ _ (by decide)))
          go_simp
        · clear hsz
          have e1 := slot_of (a := a) (s := 33) (v := .pointer (some ⟨g, 0, none⟩)) (hv 1 (by kernel_rfl))
          refine step_run (wanted_none rfl) (v := .pointer (some ⟨g, 0, none⟩)) (w' := w) ?_ (hK _ _ hC trivial rfl (hJ.same 2 (by decide) (by decide) _ _ (by decide)))
          go_simp
        · clear hsz
          have e1 := slot_of (a := a) (s := 34) (v := .pointer (some ⟨g, 0, none⟩)) (hv 2 (by kernel_rfl))
          have e2 := hC.2.cell 0
          simp only [List.getElem?_toArray, List.getElem?_cons_zero] at e2
          refine step_run (wanted_none rfl) (v := .pointer (some ⟨h, 0, none⟩)) (w' := w) ?_ (hK _ _ hC trivial rfl (hJ.same 3 (by decide) (by decide) _ _ (by decide)))
          go_simp
        · clear hsz
          have e1 := slot_of (a := a) (s := 0) (v := .pointer (some ⟨g, 0, none⟩)) (hf 0 (by kernel_rfl))
          refine step_run (wanted_none rfl) (v := .pointer (some ⟨g, 0, none⟩)) (w' := w) ?_ (hK _ _ hC trivial rfl (hJ.same 4 (by decide) (by decide) _ _ (by decide)))
          go_simp
        · clear hsz
          have e1 := slot_of (a := a) (s := 36) (v := .pointer (some ⟨g, 0, none⟩)) (hv 4 (by kernel_rfl))
          refine step_run (wanted_none rfl) (v := .pointer (some ⟨g, 0, none⟩)) (w' := w) ?_ (hK _ _ hC trivial rfl (hJ.same 5 (by decide) (by decide) _ _ (by decide)))
          go_simp
        · clear hsz
          have e1 := slot_of (a := a) (s := 37) (v := .pointer (some ⟨g, 0, none⟩)) (hv 5 (by kernel_rfl))
          refine step_run (wanted_none rfl) (v := .pointer (some ⟨g, 0, none⟩)) (w' := w) ?_ (hK _ _ hC trivial rfl (hJ.same 6 (by decide) (by decide) _ _ (by decide)))
          go_simp
        · clear hsz
          have e1 := slot_of (a := a) (s := 38) (v := .pointer (some ⟨g, 0, none⟩)) (hv 6 (by kernel_rfl))
          have e2 := hC.2.cell 0
          simp only [List.getElem?_toArray, List.getElem?_cons_zero] at e2
          refine step_run (wanted_none rfl) (v := .pointer (some ⟨h, 0, none⟩)) (w' := w) ?_ (hK _ _ hC trivial rfl (hJ.same 7 (by decide) (by decide) _ _ (by decide)))
          go_simp
        · clear hsz
          have e1 := slot_of (a := a) (s := 39) (v := .pointer (some ⟨h, 0, none⟩)) (hv 7 (by kernel_rfl))
          refine step_run (wanted_none rfl) (v := .pointer (some ⟨h, 0, none⟩)) (w' := w) ?_ (hK _ _ hC trivial rfl (hJ.same 8 (by decide) (by decide) _ _ (by decide)))
          go_simp
        · clear hsz
          have e1 := slot_of (a := a) (s := 40) (v := .pointer (some ⟨h, 0, none⟩)) (hv 8 (by kernel_rfl))
          have e2 := (hJ.mid (by cases h13 : L 13 with | false => rfl | true => exact absurd (hJ.o9 (hJ.o11 h13)) (by rw [hL]; decide))).cell 0
          simp only [List.getElem?_toArray, List.getElem?_cons_zero] at e2
          refine step_run (wanted_none rfl) (v := .slice A2 z c2) (w' := w) ?_ (hK _ _ hC trivial rfl (hJ.same 9 (by decide) (by decide) _ _ (by decide)))
          go_simp
        · clear hsz
          have e1 := slot_of (a := a) (s := 1) (v := .slice A n c) (hf 1 (by kernel_rfl))
          refine step_run (wanted_none rfl) (v := .slice A n c) (w' := w) ?_ (hK _ _ hC trivial rfl (hJ.same 10 (by decide) (by decide) _ _ (by decide)))
          go_simp
        · have ho := hJ.own hL
          have hx := ((HX.out.keep hC.1 (Grew.refl _ _)).rd)
          refine step_app (base := 0) rfl (.tmp 41) (.tmp 42) rfl ho (eval_of (hv 9 (by kernel_rfl))) n c (eval_of (hv 10 (by kernel_rfl))) hx HM.out (by rw [HZ.out]; exact hs) (Nat.zero_le _) ?_
          intro A1 c1 w1 ho1 hg1 hb1
          have hgne : ∀ k, k ∈ F2 → some k ≠ (Value.slice A2 z c2).ownBlock ∨ (k ≠ g ∧ k ≠ h) := by
            intro k hk
            cases hv2 : (Value.slice A2 z c2).ownBlock with
            | none => exact .inl (by simp)
            | some b =>
              by_cases e : k = b
              · subst e
                exact .inr (HN.out.far k hv2).2
              · exact .inl (by simp [e])
          refine hK _ _ ⟨hC.1.trans (Grew.refl _ _) (Untouched.of_grown hg1 fun k hk => (HN.out.far k hk).1), hC.2.grown hg1 (by rcases hgne g HN.out.gF with h1 | h1; exact h1; exact absurd rfl h1.1)⟩ trivial trivial (hJ.app hL (hW 9 (by kernel_rfl)) (by rw [hsz]; simp) A1 _ c1 ho1 (by rcases hb1 with h1 | h1; exact .inl h1; exact .inr ⟨_, h1, hC.1.size⟩) (fun hm => hm.grown hg1 (by rcases hgne h HN.out.hF with h1 | h1; exact h1; exact absurd rfl h1.2)))
        · clear hsz
          have e1 := slot_of (a := a) (s := 35) (v := .pointer (some ⟨h, 0, none⟩)) (hv 3 (by kernel_rfl))
          refine step_run (wanted_none rfl) (v := .pointer (some ⟨h, 0, none⟩)) (w' := w) ?_ (hK _ _ hC trivial rfl (hJ.same 12 (by decide) (by decide) _ _ (by decide)))
          go_simp
        · clear hsz
          have e1 := slot_of (a := a) (s := 44) (v := .pointer (some ⟨h, 0, none⟩)) (hv 12 (by kernel_rfl))
          have h11 := hW 11 (by kernel_rfl)
          obtain ⟨A1, m1, c1, e43, ho1, hb1⟩ := hJ.new h11
          have e2 := slot_of (a := a) (s := 43) e43
          have hm := hJ.mid hL
          have hfz := hm.frozen 0
          have hcz := hm.cell 0
          simp only [List.getElem?_toArray, List.getElem?_cons_zero] at hcz
          have hset := hm.set_ 0 (.slice A1 m1 c1)
          refine step_skip (wanted_none rfl) (w' := w.setCell ⟨h, 0, none⟩ (.slice A1 m1 c1)) ?_ (hK undef _ ⟨hC.1.trans (Grew.refl _ _) (Untouched.set h 0 HN.out.hF _), hC.2.far (p := ⟨h, 0, none⟩) (fun e => HN.out.ne e.symm) _⟩ trivial trivial (hJ.store h11 (by rw [e43]; exact hset) (fun v hv1 hv2 => hv1.kept (grown_put (World.grownBy.refl w (some h)) 0 _) (.inr hv2)) ?_))
          · go_simp
          · intro A5 m5 c5 hor e
            rcases hor with h1 | ⟨k, h1, h2⟩
            · rw [e] at h1
              exact absurd rfl (HN.out.far h h1.symm).2.2
            · rw [e] at h1
              injection h1 with h1
              have := HN.out.mid.lt
              omega
      · intro f w6 hC6 hv6 L6 hL6 hJ6
        obtain ⟨a6, hJ, -⟩ := hJ6
        obtain ⟨A1, m1, c1, e43, ho1, hb1⟩ := hJ.new (hL6 11 (by decide))
        have hm6 := hJ.put (hL6 13 (by decide))
        rw [e43] at hm6
        obtain ⟨hO, hG2, hU2⟩ := OutN.last HN.out hC6.1 hC6.2 hm6 ho1 hb1
        have H1 := hidg_ hO
        have H2 := hidg_ (HG.out.trans HU.out.size hG2)
        have H3 := hidg_ (HU.out.trans HG.out hU2)
        have H4 := hidg_ ho1.rd.2
        have hca := hC6.2.cell 0
        have hcb := hC6.2.cell 1
        have hcf := hC6.2.frozen 1
        have hcm := hm6.cell 0
        simp only [List.getElem?_toArray, List.getElem?_cons_zero, List.getElem?_cons_succ] at hca hcb hcm
        simp only [framed, List.foldl_cons, List.foldl_nil, List.setIfInBounds_toArray, List.set_cons_succ, List.set_cons_zero]
        clear hv6 hL6 hJ e43 ho1 hb1 hm6 hO hG2 hU2 hC6
        go_wp2
        go_ret
        exact ⟨rfl, _, OutF.outN H4.out.symm H1.out, H2.out, H3.out⟩
end Go.Proofs.YtegfnlnbhhmkjaaDoor

namespace Go.Proofs.YtegfnlnbhhmkjaaDoor
set_option maxRecDepth 100000
open Go.RowKit
set_option linter.unusedVariables false
set_option linter.unusedSimpArgs false

section
variable {w w1 w' : World} {g : Nat} {l : List UInt8} {bad wrong : Bool} {F G : List Nat} {e : Ending}
/-- Only the blocks that are there. -/
def trim (w : World) (F : List Nat) : List Nat := F.filter (fun k => decide (k < w.heap.size))
theorem mem_trim {k : Nat} : k ∈ trim w F ↔ k ∈ F ∧ k < w.heap.size := by simp [trim]
theorem OutF.trim (h : OutF w g l bad wrong F) : OutF w g l bad wrong (Go.Proofs.YtegfnlnbhhmkjaaDoor.trim w F) := by
  obtain ⟨hg, all, hb, hor⟩ := h
  refine ⟨mem_trim.2 ⟨hg, hb.lt⟩, all, hb, ?_⟩
  rcases hor with h1 | ⟨h, A, c, e, hF, hne, hbk, ho, hown⟩
  · exact .inl h1
  · obtain ⟨_, _, _, _, hbd⟩ := ho.form
    exact .inr ⟨h, A, c, e, mem_trim.2 ⟨hF, hbk.lt⟩, hne, hbk, ho, fun b hb => ⟨mem_trim.2 ⟨(hown b hb).1, (hbd b hb).2⟩, (hown b hb).2⟩⟩
theorem OutP.untrim (h : OutP w g l bad wrong (Go.Proofs.YtegfnlnbhhmkjaaDoor.trim w F) e w') : OutP w g l bad wrong F e w' := by
  obtain ⟨he, F', hO, hG, hU⟩ := h
  refine ⟨he, F', hO, fun k hk => ?_, hU.os, hU.tape, hU.output, hU.size, fun k hk hn => hU.block k hk fun hm => hn (mem_trim.1 hm).1⟩
  rcases hG k hk with h1 | h1
  · exact .inl (mem_trim.1 h1).1
  · exact .inr h1
theorem Own8.at_ {base : Nat} {v : Value} (h : Own8 w base v l) (hk : ∀ k, v.ownBlock = some k → w1.heap[k]? = w.heap[k]?) : Own8 w1 base v l := by
  refine ⟨h.1, ?_⟩
  rcases h.2 with hn | ⟨g, cap, cur, rfl, hb, hgg, rest⟩
  · exact .inl hn
  · exact .inr ⟨g, cap, cur, rfl, hb, (hk g rfl).trans hgg, rest⟩
/-- An Out stands while other blocks turn. -/
theorem OutF.apart (h : OutF w g l bad wrong F) (hu : Untouched G w w1) (hd : ∀ k ∈ F, k ∉ G) : OutF w1 g l bad wrong F := by
  obtain ⟨hg, all, hb, hor⟩ := h
  refine ⟨hg, all, hb.untouched hu (hd g hg), ?_⟩
  rcases hor with h1 | ⟨h, A, c, e, hF, hne, hbk, ho, hown⟩
  · exact .inl h1
  · refine .inr ⟨h, A, c, e, hF, hne, hbk.untouched hu (hd h hF), ?_, hown⟩
    obtain ⟨_, _, _, _, hbd⟩ := ho.form
    exact ho.at_ fun b hb => hu.block b (hbd b hb).2 (hd b (hown b hb).1)
theorem OutF.below (h : OutF w g l bad wrong F) (hb : Below w.heap.size w w1) : OutF w1 g l bad wrong F := h.apart (G := []) (.of_below hb) fun _ _ => by simp
theorem OutP.from (h : OutP w1 g l bad wrong F e w') (hu : Untouched F w w1) : OutP w g l bad wrong F e w' := by
  obtain ⟨he, F', hO, hG, hU⟩ := h
  exact ⟨he, F', hO, (Grew.refl w F).trans hu.size hG, hu.trans (Grew.refl _ _) hU⟩
end
/-- put, of a slice whose memory was not there. -/
theorem put_new (w w1 : World) (g : Nat) (l : List UInt8) (bad wrong : Bool) (F : List Nat) (A : Option Addr) (n c : Nat) (m : List UInt8) (h : OutF w g l bad wrong F) (hb : Below w.heap.size w w1) (hr : Rd w1 w1.heap.size A m) (hA : ∀ a, A = some a → w.heap.size ≤ a.block) (hm : m.length = n) (hs : l.length + n ≤ 140737488355328) :
    Calls Tryd.prog 73 #[.pointer (some ⟨g, 0, none⟩), .slice A n c] w1 (OutP w g (l ++ m) bad wrong F) := by
  refine (put_any w1 g l bad wrong (trim w F) A n c m (h.trim.below hb) (fun hn => ?_) hm hs).mono fun e w' hh => OutP.untrim (hh.from (.of_below hb))
  obtain ⟨b, off, e, hlt, hc⟩ := hr hn
  exact ⟨b, off, e, fun hm => by have := (mem_trim.1 hm).2; have := hA _ e; simp only at this; omega, hlt, hc⟩

set_option maxRecDepth 100000 in
set_option maxHeartbeats 1000000 in
theorem num_neg (w : World) (g : Nat) (l : List UInt8) (bad wrong : Bool) (F : List Nat) (k : Int) (h : OutF w g l bad wrong F) (hk : k < 0) :
    Calls Tryd.prog 56 #[.pointer (some ⟨g, 0, none⟩), .int .i64 k] w (OutP w g l true wrong F) := by
  have c1 := refuse_any w g l bad wrong F h
  have hd : decide (k < 0) = true := decide_eq_true hk
  go_enter Tryd.func56, Tryd.ntmps56
  go_wp2_with (go_at_call 72; refine c1.mono ?_; rintro e w' ⟨rfl, hP⟩)
  go_ret
  exact ⟨rfl, hP⟩
set_option maxRecDepth 100000 in
set_option maxHeartbeats 1000000 in
theorem num_any (w : World) (g : Nat) (l : List UInt8) (bad wrong : Bool) (F : List Nat) (k : Nat) (h : OutF w g l bad wrong F) (hk : k ≤ 9223372036854775807) (hs : l.length + 8 ≤ 140737488355328) :
    Calls Tryd.prog 56 #[.pointer (some ⟨g, 0, none⟩), .int .i64 (k : Int)] w (OutP w g (l ++ highB 8 k) bad wrong F) := by
  have c1 := putHigh_any k 8 8 (by omega) (by omega) (by omega) (.inr (.inl ⟨by omega, by omega, rfl⟩)) w
  have hd : decide ((k : Int) < 0) = false := decide_eq_false (by omega)
  have hw : IntKind.u64.wrap (k : Int) = (k : Int) := IntWalk.u64_in _ (by omega)
  have H := hidg_ h
  clear h
  go_enter Tryd.func56, Tryd.ntmps56
  go_wp2_with (first
    | (go_at_call 65; refine c1.mono ?_; rintro e w1 ⟨rfl, hb, hB⟩; have B1 := hidg_ hb; have HB := hidg_ hB; clear hb hB)
    | (go_at_call 73; have cp := put_new w _ g l bad wrong F (some ⟨w.heap.size, 0, none⟩) 8 8 (highB 8 k) H.out HB.out (B1.out.rd B1.out.lt) (fun a e => by injection e with e; rw [← e]; exact Nat.le_refl _) (highB_len 8 k) hs; (with_reducible refine cp.mono ?_); clear cp; rintro e w' ⟨rfl, hP⟩))
  go_ret
  exact ⟨rfl, hP⟩

set_option maxRecDepth 100000 in
set_option maxHeartbeats 1000000 in
theorem small_no (w : World) (g : Nat) (l : List UInt8) (bad wrong : Bool) (F : List Nat) (k : Int) (h : OutF w g l bad wrong F) (w0 : -9223372036854775808 ≤ k) (w1 : k ≤ 9223372036854775807) (hk : ¬ (0 ≤ k ∧ k < 256)) :
    Calls Tryd.prog 55 #[.pointer (some ⟨g, 0, none⟩), .int .i64 k] w (OutP w g l true wrong F) := by
  have c1 := refuse_any w g l bad wrong F h
  have c2 := byte_any k w0 w1 w
  rw [if_neg hk, decide_eq_false hk] at c2
  clear h
  go_enter Tryd.func55, Tryd.ntmps55
  go_wp2_with (first
    | (go_at_call 71; refine c2.mono ?_; rintro e w' ⟨rfl, rfl⟩)
    | (go_at_call 72; refine c1.mono ?_; rintro e w' ⟨rfl, hP⟩))
  go_ret
  exact ⟨rfl, hP⟩
set_option maxRecDepth 100000 in
set_option maxHeartbeats 1000000 in
theorem small_any (w : World) (g : Nat) (l : List UInt8) (bad wrong : Bool) (F : List Nat) (k : Nat) (h : OutF w g l bad wrong F) (hk : k < 256) (hs : l.length + 1 ≤ 140737488355328) :
    Calls Tryd.prog 55 #[.pointer (some ⟨g, 0, none⟩), .int .i64 (k : Int)] w (OutP w g (l ++ [UInt8.ofNat k]) bad wrong F) := by
  have c2 := byte_any (k : Int) (by omega) (by omega) w
  rw [if_pos (by omega), decide_eq_true (by omega)] at c2
  have H := hidg_ h
  have hrow : (#[Value.int .u8 (k : Int)] : Array Value) = rowOf [UInt8.ofNat k] := by
    have : (UInt8.ofNat k).toNat = k := by simp; omega
    simp [rowOf, this]
  have HR := hidg_ hrow
  clear h hrow
  go_enter Tryd.func55, Tryd.ntmps55
  go_wp2_with (first
    | (go_at_call 71; refine c2.mono ?_; rintro e w' ⟨rfl, rfl⟩)
    | (go_at_call 73; rw [HR.out]; have cp := put_new w _ g l bad wrong F (some ⟨w.heap.size, 0, none⟩) 1 1 [UInt8.ofNat k] H.out ((Below.refl _ _).alloc (Nat.le_refl _) _) ((Blk8.new w _).rd (Blk8.new w _).lt) (fun a e => by injection e with e; rw [← e]; exact Nat.le_refl _) rfl hs; (with_reducible refine cp.mono ?_); clear cp; rintro e w' ⟨rfl, hP⟩))
  go_ret
  exact ⟨rfl, hP⟩
set_option maxRecDepth 100000 in
set_option maxHeartbeats 1000000 in
theorem fixed_any (w : World) (g : Nat) (l : List UInt8) (bad wrong : Bool) (F : List Nat) (A : Option Addr) (n c : Nat) (m : List UInt8) (h : OutF w g l bad wrong F) (hr : RdF w F A m) (hm : m.length = n) (hs : l.length + n ≤ 140737488355328) :
    Calls Tryd.prog 57 #[.pointer (some ⟨g, 0, none⟩), .slice A n c] w (OutP w g (l ++ m) bad wrong F) := by
  have c1 := put_any w g l bad wrong F A n c m h hr hm hs
  go_enter Tryd.func57, Tryd.ntmps57
  go_wp2_with (go_at_call 73; refine c1.mono ?_; rintro e w' ⟨rfl, hP⟩)
  go_ret
  exact ⟨rfl, hP⟩
set_option maxRecDepth 100000 in
set_option maxHeartbeats 1000000 in
theorem bytes_any (w : World) (g : Nat) (l : List UInt8) (bad wrong : Bool) (F : List Nat) (A : Option Addr) (n c : Nat) (m : List UInt8) (h : OutF w g l bad wrong F) (hr : RdF w F A m) (hm : m.length = n) (hs : l.length + 4 + n ≤ 140737488355328) :
    Calls Tryd.prog 58 #[.pointer (some ⟨g, 0, none⟩), .slice A n c] w (OutP w g (l ++ highB 4 n ++ m) bad wrong F) := by
  have c1 := putHigh_any n 4 4 (by omega) (by omega) (by omega) (.inr (.inl ⟨by omega, by omega, rfl⟩)) w
  have hw : IntKind.u64.wrap (n : Int) = (n : Int) := IntWalk.u64_in _ (by omega)
  have H := hidg_ h
  have HR := hidg_ hr
  have HM := hidg_ hm
  clear h hr hm
  go_enter Tryd.func58, Tryd.ntmps58
  go_wp2_with (first
    | (go_at_call 65; refine c1.mono ?_; rintro e w1 ⟨rfl, hb, hB⟩; have B1 := hidg_ hb; have HB := hidg_ hB; clear hb hB)
    | (go_at_call 73; have cp := put_new w _ g l bad wrong F (some ⟨w.heap.size, 0, none⟩) 4 4 (highB 4 n) H.out HB.out (B1.out.rd B1.out.lt) (fun a e => by injection e with e; rw [← e]; exact Nat.le_refl _) (highB_len 4 n) (by omega); (with_reducible refine cp.mono ?_); clear cp; rintro e w2 ⟨rfl, F2, hO, hG, hU⟩; have HO := hidg_ hO; have HG := hidg_ hG; have HU := hidg_ hU; clear hO hG hU)
    | (go_at_call 73; have cp := put_any _ g (l ++ highB 4 n) bad wrong F2 A n c m HO.out (HR.out.keep HU.out HG.out) HM.out (by rw [List.length_append, highB_len]; exact hs); (with_reducible refine cp.mono ?_); clear cp; rintro e w3 ⟨rfl, F3, hO3, hG3, hU3⟩; have HO3 := hidg_ hO3; have HG3 := hidg_ hG3; have HU3 := hidg_ hU3; clear hO3 hG3 hU3))
  go_ret
  exact ⟨rfl, F3, HO3.out, HG.out.trans HU.out.size HG3.out, HU.out.trans HG.out HU3.out⟩
set_option maxRecDepth 100000 in
set_option maxHeartbeats 1000000 in
theorem done_any (w : World) (g n : Nat) (l : List UInt8) (bad wrong : Bool) (F : List Nat) (h : OutF w g l bad wrong F) (hn : l.length = n) (hm : n ≤ 140737488355328) :
    Calls Tryd.prog 59 #[.pointer (some ⟨g, 0, none⟩)] w fun e w' => ∃ A c, e = .returned (.tuple #[.slice A n c, .int .i64 (if bad then 1 else 0)]) ∧ Own8 w' w.heap.size (.slice A n c) l ∧ Below w.heap.size w w' := by
  have c1 := own_any w g n l bad wrong F h hn hm
  obtain ⟨hg, all, hb, hor⟩ := h
  have hc2 := hb.cell 2
  simp only [List.getElem?_toArray, List.getElem?_cons_zero, List.getElem?_cons_succ] at hc2
  clear hb hor hn
  cases bad
  all_goals
    go_enter Tryd.func59, Tryd.ntmps59
    go_wp2_with (go_at_call 74; refine c1.mono ?_; rintro e w' ⟨A, c, rfl, ho, hb⟩; have HO := hidg_ ho; have HB := hidg_ hb; clear ho hb)
    go_ret2
    exact ⟨A, c, rfl, HO.out, HB.out⟩
end Go.Proofs.YtegfnlnbhhmkjaaDoor

namespace Go.Proofs.YtegfnlnbhhmkjaaDoor
set_option maxRecDepth 100000
open Go.RowKit
set_option linter.unusedVariables false
set_option linter.unusedSimpArgs false

/-- What lies behind an In's pointer: what is left, and the first error; and its blocks. -/
def InFc (w : World) (g : Nat) (l : List UInt8) (err : Int) (F : List Nat) : Prop :=
  g ∈ F ∧ ∃ A c, Bk w g 122 #[.slice A l.length c, .int .i64 err] ∧ Rd w w.heap.size A l ∧ (∀ a, A = some a → a.block ∈ F ∧ a.block ≠ g ∧ a.block < w.heap.size) ∧ l.length ≤ c ∧ c ≤ 9223372036854775807
/-- An In's cells, with its slice. -/
structure InN (w : World) (g : Nat) (l : List UInt8) (err : Int) (F : List Nat) (A : Option Addr) (n c : Nat) : Prop where
  gF : g ∈ F
  len : l.length = n
  head : Bk w g 122 #[.slice A n c, .int .i64 err]
  rd : Rd w w.heap.size A l
  far : ∀ a, A = some a → a.block ∈ F ∧ a.block ≠ g ∧ a.block < w.heap.size
  cap : n ≤ c
  most : c ≤ 9223372036854775807
section
variable {w w1 w' : World} {g n c : Nat} {l : List UInt8} {err : Int} {F G : List Nat} {A : Option Addr}
theorem InFc.out (h : InFc w g l err F) : ∃ A n c, InN w g l err F A n c := by
  obtain ⟨hg, A, c, h1, h2, h3, h4, h5⟩ := h
  exact ⟨A, _, c, hg, rfl, h1, h2, h3, h4, h5⟩
theorem InN.inF (h : InN w g l err F A n c) : InFc w g l err F := by
  obtain ⟨h1, rfl, h2, h3, h4, h5, h6⟩ := h
  exact ⟨h1, A, c, h2, h3, h4, h5, h6⟩
theorem rd_untouched (h : Rd w w.heap.size A l) (hu : Untouched G w w1) (hd : ∀ a, A = some a → a.block ∉ G) : Rd w1 w1.heap.size A l := fun hn => by
  obtain ⟨b, off, e, hlt, hc⟩ := h hn
  have hG := hd _ e
  exact ⟨b, off, e, Nat.lt_of_lt_of_le hlt hu.size, fun j hj => (World.cell?_of_block (hu.block b hlt hG)).trans (hc j hj)⟩
theorem InN.apart (h : InN w g l err F A n c) (hu : Untouched G w w1) (hd : ∀ k ∈ F, k ∉ G) : InN w1 g l err F A n c :=
  ⟨h.gF, h.len, h.head.untouched hu (hd g h.gF), rd_untouched h.rd hu fun a e => hd _ (h.far a e).1, fun a e => ⟨(h.far a e).1, (h.far a e).2.1, Nat.lt_of_lt_of_le (h.far a e).2.2 hu.size⟩, h.cap, h.most⟩
theorem InFc.apart (h : InFc w g l err F) (hu : Untouched G w w1) (hd : ∀ k ∈ F, k ∉ G) : InFc w1 g l err F := by
  obtain ⟨A, n, c, h⟩ := h.out
  exact (h.apart hu hd).inF
/-- The error set. -/
theorem InN.fail (h : InN w g l err F A n c) (e : Int) : InN (w.setCell ⟨g, 1, none⟩ (.int .i64 e)) g l e F A n c ∧ Untouched [g] w (w.setCell ⟨g, 1, none⟩ (.int .i64 e)) := by
  have hu : Untouched [g] w (w.setCell ⟨g, 1, none⟩ (.int .i64 e)) := Untouched.set g 1 (by simp) _
  refine ⟨⟨h.gF, h.len, h.head.set_ 1 _, rd_untouched h.rd hu fun a ea => by have := (h.far a ea).2.1; simp [this], fun a ea => ⟨(h.far a ea).1, (h.far a ea).2.1, Nat.lt_of_lt_of_le (h.far a ea).2.2 hu.size⟩, h.cap, h.most⟩, hu⟩
/-- What is left is less. -/
theorem InN.less (h : InN w g l err F A n c) (k : Nat) (hk : k ≤ n) : InN (w.setCell ⟨g, 0, none⟩ (.slice (if c = k then A else A.map (·.add k)) (n - k) (c - k))) g (l.drop k) err F (if c = k then A else A.map (·.add k)) (n - k) (c - k) ∧ Untouched [g] w (w.setCell ⟨g, 0, none⟩ (.slice (if c = k then A else A.map (·.add k)) (n - k) (c - k))) := by
  have hu : Untouched [g] w (w.setCell ⟨g, 0, none⟩ (.slice (if c = k then A else A.map (·.add k)) (n - k) (c - k))) := Untouched.set g 0 (by simp) _
  have hf : ∀ a, (if c = k then A else A.map (·.add k)) = some a → a.block ∈ F ∧ a.block ≠ g ∧ a.block < w.heap.size := by
    intro a e
    split at e
    · exact h.far a e
    · cases A with
      | none => cases e
      | some a0 =>
        have e2 : a0.add k = a := by simpa using e
        have hb : a.block = a0.block := by rw [← e2]; unfold Addr.add; split <;> rfl
        rw [hb]
        exact h.far a0 rfl
  have hr := rd_from h.rd c k (by rw [h.len]; exact hk) (by rw [h.len]; exact h.cap)
  refine ⟨⟨h.gF, by rw [List.length_drop, h.len], h.head.set_ 0 _, rd_untouched hr hu fun a ea => by have := (hf a ea).2.1; simp [this], fun a ea => ⟨(hf a ea).1, (hf a ea).2.1, Nat.lt_of_lt_of_le (hf a ea).2.2 hu.size⟩, by have := h.cap; omega, by have := h.most; omega⟩, hu⟩
end

set_option maxRecDepth 100000 in
set_option maxHeartbeats 1000000 in
theorem has_off (w : World) (g : Nat) (l : List UInt8) (err : Int) (F : List Nat) (n : Int) (h : InFc w g l err F) (hn : err ≠ 0 ∨ n ≤ 0) :
    Calls Tryd.prog 75 #[.pointer (some ⟨g, 0, none⟩), .int .i64 n] w fun e w' => e = .returned (.bool false) ∧ w = w' := by
  obtain ⟨A, m, c, h⟩ := h.out
  have hc1 := h.head.cell 1
  simp only [List.getElem?_toArray, List.getElem?_cons_zero, List.getElem?_cons_succ] at hc1
  clear h
  by_cases he : err = 0
  · subst he
    have hd : decide (n ≤ 0) = true := decide_eq_true (by rcases hn with h | h; exact absurd rfl h; exact h)
    clear hn
    go_enter Tryd.func75, Tryd.ntmps75
    go_wp2
    go_ret
    exact ⟨rfl, rfl⟩
  · have hd : (err != 0) = true := by simpa using he
    clear hn he
    go_enter Tryd.func75, Tryd.ntmps75
    go_wp2
    go_ret
    exact ⟨rfl, rfl⟩
set_option maxRecDepth 100000 in
set_option maxHeartbeats 1000000 in
theorem has_short (w : World) (g : Nat) (l : List UInt8) (F : List Nat) (n : Nat) (h : InFc w g l 0 F) (h0 : 0 < n) (hn : l.length < n) :
    Calls Tryd.prog 75 #[.pointer (some ⟨g, 0, none⟩), .int .i64 (n : Int)] w fun e w' => e = .returned (.bool false) ∧ InFc w' g l 3 F ∧ Untouched [g] w w' := by
  obtain ⟨A, m, c, h⟩ := h.out
  rw [h.len] at hn
  have hc0 := h.head.cell 0
  have hc1 := h.head.cell 1
  have hf1 := h.head.frozen 1
  simp only [List.getElem?_toArray, List.getElem?_cons_zero, List.getElem?_cons_succ] at hc0 hc1
  have hd : decide ((n : Int) ≤ 0) = false := decide_eq_false (by omega)
  have hd2 : decide ((m : Int) < (n : Int)) = true := decide_eq_true (by omega)
  have H := hidg_ (h.fail 3)
  clear h
  go_enter Tryd.func75, Tryd.ntmps75
  go_wp2
  go_ret
  exact ⟨rfl, H.out.1.inF, H.out.2⟩
set_option maxRecDepth 100000 in
set_option maxHeartbeats 1000000 in
theorem has_yes (w : World) (g : Nat) (l : List UInt8) (F : List Nat) (n : Nat) (h : InFc w g l 0 F) (h0 : 0 < n) (hn : n ≤ l.length) :
    Calls Tryd.prog 75 #[.pointer (some ⟨g, 0, none⟩), .int .i64 (n : Int)] w fun e w' => e = .returned (.bool true) ∧ w = w' := by
  obtain ⟨A, m, c, h⟩ := h.out
  rw [h.len] at hn
  have hc0 := h.head.cell 0
  have hc1 := h.head.cell 1
  simp only [List.getElem?_toArray, List.getElem?_cons_zero, List.getElem?_cons_succ] at hc0 hc1
  have hd : decide ((n : Int) ≤ 0) = false := decide_eq_false (by omega)
  have hd2 : decide ((m : Int) < (n : Int)) = false := decide_eq_false (by omega)
  clear h
  go_enter Tryd.func75, Tryd.ntmps75
  go_wp2
  go_ret
  exact ⟨rfl, rfl⟩
set_option maxRecDepth 100000 in
set_option maxHeartbeats 1000000 in
theorem take_anyc (w : World) (g : Nat) (l : List UInt8) (err : Int) (F : List Nat) (n : Nat) (h : InFc w g l err F) (hn : n ≤ l.length) :
    Calls Tryd.prog 77 #[.pointer (some ⟨g, 0, none⟩), .int .i64 (n : Int)] w fun e w' => ∃ A, (∃ c, e = .returned (.slice A n c)) ∧ Rd w' w'.heap.size A (l.take n) ∧ InFc w' g (l.drop n) err F ∧ Untouched [g] w w' := by
  obtain ⟨A, m, c, h⟩ := h.out
  rw [h.len] at hn
  have hc0 := h.head.cell 0
  have hf0 := h.head.frozen 0
  simp only [List.getElem?_toArray, List.getElem?_cons_zero, List.getElem?_cons_succ] at hc0
  have hcap := h.cap
  have hmost := h.most
  have s1 := fun W => slice_to A m c (n : Int) n rfl (by omega) W
  have s2 := fun W => slice_from A m c n hn W
  have H2 := h.less n hn
  have HR2 := rd_untouched (h.rd.take n) H2.2 fun a ea => by have := (h.far a ea).2.1; simp [this]
  generalize (if c = n then A else A.map (·.add n)) = A4 at s2 H2 HR2
  have H := hidg_ H2
  have HR := hidg_ HR2
  clear H2 HR2
  clear h
  go_enter Tryd.func77, Tryd.ntmps77
  go_wp2
  go_ret
  exact ⟨A, ⟨c, rfl⟩, HR.out, H.out.1.inF, H.out.2⟩
end Go.Proofs.YtegfnlnbhhmkjaaDoor

namespace Go.Proofs.YtegfnlnbhhmkjaaDoor
set_option maxRecDepth 100000
open Go.RowKit
set_option linter.unusedVariables false
set_option linter.unusedSimpArgs false

/-- A number out of what is left; what is left then, and the error. -/
def numS (size : Nat) (most : Int) (l : List UInt8) (err : Int) : Int × List UInt8 × Int :=
  if err ≠ 0 then (0, l, err) else if l.length < size then (0, l, 3) else if most < (beN (l.take size) : Int) then (0, l, 5) else ((beN (l.take size) : Int), l.drop size, 0)
theorem numS_off {size : Nat} {most : Int} {l : List UInt8} {err : Int} (h : err ≠ 0) : numS size most l err = (0, l, err) := if_pos h
theorem numS_short {size : Nat} {most : Int} {l : List UInt8} (h : l.length < size) : numS size most l 0 = (0, l, 3) := by simp [numS, h]
theorem numS_big {size : Nat} {most : Int} {l : List UInt8} (h : ¬ l.length < size) (h2 : most < (beN (l.take size) : Int)) : numS size most l 0 = (0, l, 5) := by simp [numS, h, h2]
theorem numS_yes {size : Nat} {most : Int} {l : List UInt8} (h : ¬ l.length < size) (h2 : ¬ most < (beN (l.take size) : Int)) : numS size most l 0 = ((beN (l.take size) : Int), l.drop size, 0) := by simp [numS, h, h2]
def NumP (w : World) (g size : Nat) (most : Int) (l : List UInt8) (err : Int) (F : List Nat) (e : Ending) (w' : World) : Prop :=
  e = .returned (.int .i64 (numS size most l err).1) ∧ InFc w' g (numS size most l err).2.1 (numS size most l err).2.2 F ∧ Untouched [g] w w'
theorem beN_zeros (k : Nat) (m : List UInt8) : beN (zbytes k ++ m) = beN m := by
  rw [beN_append]
  have : beN (zbytes k) = 0 := by
    induction k with
    | zero => rfl
    | succ k ih =>
      have e : zbytes (k + 1) = zbytes k ++ [0] := by simp [zbytes, List.replicate_succ']
      rw [e, beN_snoc, ih]
      rfl
  rw [this]
  omega
theorem size8_ (W : World) : (sizeOf (Tryd.prog.elem 138)).run Tryd.prog W = .ok 1 W := by
  have he : Tryd.prog.elem 138 = 5 := by kernel_rfl
  rw [he]
  obtain ⟨i, hi, hz, hsize, hby⟩ := info_parts info8
  simp [sizeOf, typeInfo, hi, hsize]
set_option maxRecDepth 100000 in
theorem slice_from8 (g k : Nat) (hk : k < 8) (W : World) :
    (Instr.sliceAt 138 (.pointer (some ⟨g, 0, none⟩)) (some (.int .i64 (k : Int))) none none).run Tryd.prog W = .ok (.slice (some ⟨g, k, none⟩) (8 - k) (8 - k)) W := by
  have he : Tryd.prog.elem 138 = 5 := by kernel_rfl
  have hn : Tryd.prog.arrayLen 138 = 8 := by kernel_rfl
  have ht : Tryd.prog.underlying 138 = some (.array (Tryd.prog.arrayLen 138) (Tryd.prog.elem 138)) := by rw [he, hn]; exact Tryd.underlying138
  rw [run_sliceAt_array_l W 138 ⟨g, 0, none⟩ ht .i64 k (by omega) (by rw [hn]; omega), size8_, hn]
  simp only [Result.andThen, slicedAt, Int.toNat_natCast, Nat.mul_one]
  rw [if_neg (by omega)]
  congr 3
  unfold Addr.add
  split
  · congr 1; omega
  · simp
set_option maxRecDepth 100000 in
theorem slice_all8 (g : Nat) (W : World) :
    (Instr.sliceAt 138 (.pointer (some ⟨g, 0, none⟩)) none none none).run Tryd.prog W = .ok (.slice (some ⟨g, 0, none⟩) 8 8) W := by
  have he : Tryd.prog.elem 138 = 5 := by kernel_rfl
  have hn : Tryd.prog.arrayLen 138 = 8 := by kernel_rfl
  have ht : Tryd.prog.underlying 138 = some (.array (Tryd.prog.arrayLen 138) (Tryd.prog.elem 138)) := by rw [he, hn]; exact Tryd.underlying138
  rw [run_sliceAt_array_all W 138 ⟨g, 0, none⟩ ht, size8_, hn]
  simp only [Result.andThen, slicedAt, Nat.mul_one]
  rw [if_neg (by omega)]
  congr 3

theorem z8_ (W : World) : (zeroValue 138).run Tryd.prog W = .ok (.agg (rowOf (zbytes 8))) W := by kernel_rfl
set_option maxRecDepth 100000 in
set_option maxHeartbeats 2000000 in
theorem number_any (w : World) (g size : Nat) (most : Int) (l : List UInt8) (err : Int) (F : List Nat) (h : InFc w g l err F) (hs0 : 0 < size) (hs8 : size ≤ 8) (w0 : -9223372036854775808 ≤ most) (w1 : most ≤ 9223372036854775807) :
    Calls Tryd.prog 60 #[.pointer (some ⟨g, 0, none⟩), .int .i64 (size : Int), .int .i64 most] w (NumP w g size most l err F) := by
  by_cases he : err = 0
  case neg =>
    have c1 := has_off w g l err F (size : Int) h (.inl he)
    go_enter Tryd.func60, Tryd.ntmps60
    go_wp2_with (go_at_call 75; ((with_reducible refine c1.mono ?_); rintro e w' ⟨rfl, rfl⟩))
    go_ret
    refine ⟨?_, ?_, Untouched.refl _ _⟩ <;> rw [numS_off he]
    · rfl
    · exact h
  subst he
  by_cases hl : l.length < size
  · have c1 := has_short w g l F size h hs0 hl
    go_enter Tryd.func60, Tryd.ntmps60
    go_wp2_with (go_at_call 75; ((with_reducible refine c1.mono ?_); rintro e w' ⟨rfl, hI, hU⟩))
    go_ret
    refine ⟨?_, ?_, hU⟩ <;> rw [numS_short hl]
    · rfl
    · exact hI
  · have c1 := has_yes w g l F size h hs0 (by omega)
    obtain ⟨A, n, c, hI⟩ := h.out
    have hln : size ≤ n := by have := hI.len; omega
    have hc0 := hI.head.cell 0
    simp only [List.getElem?_toArray, List.getElem?_cons_zero, List.getElem?_cons_succ] at hc0
    have hw8 : IntKind.i64.wrap ((8 : Int) - (size : Int)) = ((8 - size : Nat) : Int) := by rw [IntWalk.i64_in _ (by omega)]; omega
    go_enter Tryd.func60, Tryd.ntmps60
    have hz8 := z8_
    have hsl := fun W => slice_from8 w.heap.size (8 - size) (by omega) W
    have hsz : 8 - (8 - size) = size := by omega
    rw [hsz] at hsl
    have hsa := fun W => slice_all8 w.heap.size W
    have hI1 := hidg_ (hI.apart (G := []) (Untouched.alloc (.cells (rowOf (zbytes 8)) 138)) fun _ _ => by simp)
    have hc1 := hI1.out.head.cell 0
    simp only [List.getElem?_toArray, List.getElem?_cons_zero, List.getElem?_cons_succ] at hc1
    have B1 := hidg_ (Bk.new w 138 (rowOf (zbytes 8)))
    have hgl := hI.head.lt
    have HU1 := hidg_ ((Below.refl w.heap.size w).alloc (Nat.le_refl _) (.cells (rowOf (zbytes 8)) 138))
    have HH := hidg_ h
    obtain ⟨m, hm⟩ : ∃ m, Hid (l.take size = m) := ⟨_, rfl⟩
    have HM : Hid (m.length = size) := hidg_ (by rw [← hm.out, List.length_take, hI.len]; omega)
    have HB : Hid (beN (laid (zbytes 8) (8 - size) m) = beN m) := hidg_ (by
      have e : laid (zbytes 8) (8 - size) m = zbytes (8 - size) ++ m := by
        have e1 : (zbytes 8).take (8 - size) = zbytes (8 - size) := by
          unfold zbytes
          rw [List.take_replicate]
          congr 1
          omega
        unfold laid
        rw [HM.out, show 8 - size + size = 8 by omega, e1, List.drop_eq_nil_of_le (by rw [zbytes_len]; omega), List.append_nil]
      rw [e, beN_zeros])
    have HL8 : Hid ((laid (zbytes 8) (8 - size) m).length = 8) := hidg_ (by rw [laid_len (by rw [HM.out, zbytes_len]; omega), zbytes_len])
    have hlt := beN_lt m
    rw [HM.out] at hlt
    have hpow : (256 : Nat) ^ size ≤ 256 ^ 8 := Nat.pow_le_pow_right (by decide) hs8
    have h64 : (256 : Nat) ^ 8 = 18446744073709551616 := by decide
    have hx64 : beN m ≤ 18446744073709551615 := by omega
    clear hlt hpow h64
    obtain ⟨x, hx⟩ : ∃ x, Hid (beN m = x) := ⟨_, rfl⟩
    rw [hx.out] at hx64
    have HMIN : Hid (size = Nat.min n size) := hidg_ (by show size = min n size; omega)
    have HR : Hid (∀ nq, RdN ((w.alloc (.cells (rowOf (zbytes 8)) 138)).drewN nq) w.heap.size A m) := hidg_ (fun nq => by
      have h1 : RdN ((w.alloc (.cells (rowOf (zbytes 8)) 138)).drewN nq) w.heap.size A (l.take size) := (((hI.rd.take size).below HU1.out).drewN nq).rdn (Nat.le_refl _) (by simp)
      rwa [hm.out] at h1)
    have HI := hidg_ hI
    clear h hI hc0 hsz hln
    go_upto_region 4 with (go_at_call 75; ((with_reducible refine c1.mono ?_); rintro e w' ⟨rfl, rfl⟩))
    rename_i K hK
    generalize hN : w.heap.size = N at *
    refine region_quiet_tail_lit 7 (by kernel_rfl) (by kernel_rfl) ?_
    simp only [List.take_succ_cons, List.take_zero]
    repeat (go_big_quiet_want; (first
      | (refine BigFrame.quiet_move _ rfl ?_; go_simp)
      | (refine quiet_run (.int .i64 ((8 - size : Nat) : Int)) ?_ ?_; (focus (intro W hW; obtain ⟨nq, rfl⟩ := hW; go_simp; done)); go_simp)
      | (refine quiet_run (.slice (some ⟨N, 8 - size, none⟩) size size) ?_ ?_; (focus (intro W hW; obtain ⟨nq, rfl⟩ := hW; go_simp; done)); go_simp)
      | (refine quiet_run (.pointer (some ⟨g, 0, none⟩)) ?_ ?_; (focus (intro W hW; obtain ⟨nq, rfl⟩ := hW; go_simp; done)); go_simp)
      | (refine quiet_run (.slice A n c) ?_ ?_; (focus (intro W hW; obtain ⟨nq, rfl⟩ := hW; go_simp; done)); go_simp)); go_big_quiet_on)
    refine wpQuiet_nil ?_
    intro w' hw'
    obtain ⟨nq, rfl⟩ := hw'
    simp only [List.drop_succ_cons, List.drop_zero]
    refine wpList_copy8 rfl (.tmp 18) (.tmp 22) rfl N (8 - size) size size rfl A n c rfl m size HM.out hs0 HMIN.out N (HR.out nq) 138 (rowOf (zbytes 8)) (B1.out.drewN nq) (by rw [rowOf_size, zbytes_len]; omega) ?_
    intro w3 k3 g3 s3
    rw [row_laid] at k3
    have HY := hidg_ ((below_drewN HU1.out nq).grown g3 (by show N ≤ (w.alloc _).heap.size; simp; omega) (fun k hk => by injection hk with hk; omega))
    have HI3 := hidg_ (HI.out.apart (G := []) (.of_below (by rw [hN]; exact HY.out)) fun _ _ => by simp)
    have c2 := high64_yes (some ⟨N, 0, none⟩) w3.heap.size 8 (laid (zbytes 8) (8 - size) m) w3 HL8.out (k3.rd k3.lt)
    rw [HB.out, hx.out] at c2
    have c3 := int_any (x : Int) (by omega) (by omega) w3
    have HU3 : Hid (Untouched [g] w w3) := hidg_ (.of_below (by rw [hN]; exact HY.out))
    have HXM : Hid (beN (l.take size) = x) := hidg_ (by rw [hm.out, hx.out])
    clear k3 g3 s3 hc1
    have hI3 := HI3.out.head
    have hc1 := hI3.cell 1
    have hf1 := hI3.frozen 1
    simp only [List.getElem?_toArray, List.getElem?_cons_zero, List.getElem?_cons_succ] at hc1
    have HF := hidg_ (HI3.out.fail 5)
    clear hI3
    by_cases hbig : (x : Int) ≤ 9223372036854775807
    · rw [if_pos hbig, decide_eq_true hbig] at c3
      by_cases hmost : most < (x : Int)
      · have hd : decide (most < (x : Int)) = true := decide_eq_true hmost
        go_wp2_with (first
          | (go_at_call 45; ((with_reducible refine c2.mono ?_); rintro e w' ⟨rfl, rfl⟩))
          | (go_at_call 76; ((with_reducible refine c3.mono ?_); rintro e w' ⟨rfl, rfl⟩)))
        go_ret
        refine ⟨?_, ?_, HU3.out.trans (Grew.refl _ _) HF.out.2⟩ <;> rw [numS_big hl (by rw [HXM.out]; exact hmost)]
        · rfl
        · exact HF.out.1.inF
      · have hd : decide (most < (x : Int)) = false := decide_eq_false hmost
        have c4 := take_anyc w3 g l 0 F size HI3.out.inF (by omega)
        go_wp2_with (first
          | (go_at_call 45; ((with_reducible refine c2.mono ?_); rintro e w' ⟨rfl, rfl⟩))
          | (go_at_call 76; ((with_reducible refine c3.mono ?_); rintro e w' ⟨rfl, rfl⟩))
          | (go_at_call 77; ((with_reducible refine c4.mono ?_); rintro e w' ⟨A4, ⟨c4', rfl⟩, hR4, hI4, hU4⟩)))
        go_ret
        refine ⟨?_, ?_, HU3.out.trans (Grew.refl _ _) hU4⟩ <;> rw [numS_yes hl (by rw [HXM.out]; omega)] <;> try rw [HXM.out]
        · rfl
        · exact hI4
    · rw [if_neg hbig, decide_eq_false hbig] at c3
      go_wp2_with (first
        | (go_at_call 45; ((with_reducible refine c2.mono ?_); rintro e w' ⟨rfl, rfl⟩))
        | (go_at_call 76; ((with_reducible refine c3.mono ?_); rintro e w' ⟨rfl, rfl⟩)))
      go_ret
      refine ⟨?_, ?_, HU3.out.trans (Grew.refl _ _) HF.out.2⟩ <;> rw [numS_big hl (by rw [HXM.out]; omega)]
      · rfl
      · exact HF.out.1.inF

/-- So many bytes out of what is left. -/
def fixS (n : Int) (l : List UInt8) (err : Int) : List UInt8 × List UInt8 × Int :=
  if err ≠ 0 ∨ n ≤ 0 then ([], l, err) else if (l.length : Int) < n then ([], l, 3) else (l.take n.toNat, l.drop n.toNat, 0)
theorem fixS_off {n : Int} {l : List UInt8} {err : Int} (h : err ≠ 0 ∨ n ≤ 0) : fixS n l err = ([], l, err) := if_pos h
theorem fixS_short {n : Int} {l : List UInt8} (h0 : 0 < n) (h : (l.length : Int) < n) : fixS n l 0 = ([], l, 3) := by
  have : ¬ n ≤ 0 := by omega
  simp [fixS, h, this]
theorem fixS_yes {n : Nat} {l : List UInt8} (h0 : 0 < n) (h : n ≤ l.length) : fixS (n : Int) l 0 = (l.take n, l.drop n, 0) := by
  have h1 : ¬ ((n : Int) ≤ 0) := by omega
  have h2 : ¬ ((l.length : Int) < (n : Int)) := by omega
  simp only [fixS, h1, h2, if_false, Int.toNat_natCast, ne_eq, not_true, or_self]
def FixP (w : World) (g : Nat) (n : Int) (l : List UInt8) (err : Int) (F : List Nat) (e : Ending) (w' : World) : Prop :=
  (∃ A m c, e = .returned (.slice A m c) ∧ m = (fixS n l err).1.length ∧ Own8 w' w.heap.size (.slice A m c) (fixS n l err).1) ∧ InFc w' g (fixS n l err).2.1 (fixS n l err).2.2 F ∧ Untouched [g] w w'

set_option maxRecDepth 100000 in
set_option maxHeartbeats 2000000 in
theorem infixed_any (w : World) (g : Nat) (n : Int) (l : List UInt8) (err : Int) (F : List Nat) (h : InFc w g l err F) (hm : l.length ≤ 140737488355328) :
    Calls Tryd.prog 62 #[.pointer (some ⟨g, 0, none⟩), .int .i64 n] w (FixP w g n l err F) := by
  by_cases he : err ≠ 0 ∨ n ≤ 0
  · have c1 := has_off w g l err F n h he
    go_enter Tryd.func62, Tryd.ntmps62
    go_wp2_with (go_at_call 75; ((with_reducible refine c1.mono ?_); rintro e w' ⟨rfl, rfl⟩))
    go_ret
    refine ⟨?_, ?_, Untouched.refl _ _⟩ <;> rw [fixS_off he]
    · exact ⟨none, 0, 0, rfl, rfl, Own8.nil_ _ _⟩
    · exact h
  · have h0 : err = 0 := Decidable.byContradiction fun e => he (.inl e)
    subst h0
    obtain ⟨k, rfl⟩ : ∃ k : Nat, n = (k : Int) := ⟨n.toNat, by omega⟩
    have hk0 : 0 < k := by omega
    clear he
    by_cases hl : l.length < k
    · have c1 := has_short w g l F k h hk0 hl
      go_enter Tryd.func62, Tryd.ntmps62
      go_wp2_with (go_at_call 75; ((with_reducible refine c1.mono ?_); rintro e w' ⟨rfl, hI, hU⟩))
      go_ret
      refine ⟨?_, ?_, hU⟩ <;> rw [fixS_short (by omega) (by omega)]
      · exact ⟨none, 0, 0, rfl, rfl, Own8.nil_ _ _⟩
      · exact hI
    · have c1 := has_yes w g l F k h hk0 (by omega)
      have c2 := take_anyc w g l 0 F k h (by omega)
      have HL := hidg_ (show (l.take k).length = k by rw [List.length_take]; omega)
      have HK : Hid (k ≤ 140737488355328) := hidg_ (by omega)
      have HH := hidg_ h
      clear h
      go_enter Tryd.func62, Tryd.ntmps62
      go_wp2_with (first
        | (go_at_call 75; ((with_reducible refine c1.mono ?_); rintro e w' ⟨rfl, rfl⟩))
        | (go_at_call 77; ((with_reducible refine c2.mono ?_); rintro e w4 ⟨A4, ⟨c4, rfl⟩, hR4, hI4, hU4⟩); have R4 := hidg_ hR4; have I4 := hidg_ hI4; have U4 := hidg_ hU4; clear hR4 hI4 hU4)
        | (go_at_call 32; have cp := clone_any A4 k c4 (l.take k) w4 HL.out R4.out HK.out; ((with_reducible refine cp.mono ?_); clear cp; rintro e w5 ⟨A5, c5, rfl, hO5, hB5⟩; have O5 := hidg_ hO5; have B5 := hidg_ hB5; clear hO5 hB5)))
      go_ret
      refine ⟨?_, ?_, U4.out.trans (Grew.refl _ _) (.of_below B5.out)⟩ <;> rw [fixS_yes hk0 (by omega)]
      · exact ⟨A5, k, c5, rfl, HL.out.symm, O5.out.lower U4.out.size⟩
      · exact I4.out.apart (G := []) (.of_below B5.out) fun _ _ => by simp
set_option maxRecDepth 100000 in
set_option maxHeartbeats 2000000 in
theorem inbytes_any (w : World) (g : Nat) (most : Int) (l : List UInt8) (err : Int) (F : List Nat) (h : InFc w g l err F) (hm : l.length ≤ 140737488355328) (w0 : -9223372036854775808 ≤ most) (w1 : most ≤ 9223372036854775807) :
    Calls Tryd.prog 61 #[.pointer (some ⟨g, 0, none⟩), .int .i64 most] w (FixP w g (numS 4 most l err).1 (numS 4 most l err).2.1 (numS 4 most l err).2.2 F) := by
  have c1 : Calls Tryd.prog 60 #[.pointer (some ⟨g, 0, none⟩), .int .i64 4, .int .i64 most] w (NumP w g 4 most l err F) := number_any w g 4 most l err F h (by omega) (by omega) w0 w1
  have hle : (numS 4 most l err).2.1.length ≤ 140737488355328 := by
    unfold numS
    split
    · exact hm
    · split
      · exact hm
      · split
        · exact hm
        · simp; omega
  have HL := hidg_ hle
  clear hle h
  unfold NumP at c1
  generalize numS 4 most l err = S at *
  go_enter Tryd.func61, Tryd.ntmps61
  go_wp2_with (first
    | (go_at_call 60; ((with_reducible refine c1.mono ?_); rintro e w4 ⟨rfl, hI4, hU4⟩); have I4 := hidg_ hI4; have U4 := hidg_ hU4; clear hI4 hU4)
    | (go_at_call 62; have cp := infixed_any w4 g S.1 S.2.1 S.2.2 F I4.out HL.out; ((with_reducible refine cp.mono ?_); clear cp; rintro e w5 ⟨⟨A5, m5, c5, rfl, hm5, hO5⟩, hI5, hU5⟩; have O5 := hidg_ hO5; have I5 := hidg_ hI5; have U5 := hidg_ hU5; have M5 := hidg_ hm5; clear hO5 hI5 hU5 hm5)))
  go_ret
  exact ⟨⟨A5, m5, c5, rfl, M5.out, O5.out.lower U4.out.size⟩, I5.out, U4.out.trans (Grew.refl _ _) U5.out⟩
set_option maxRecDepth 100000 in
set_option maxHeartbeats 1000000 in
theorem innum_any (w : World) (g : Nat) (most : Int) (l : List UInt8) (err : Int) (F : List Nat) (h : InFc w g l err F) (w0 : -9223372036854775808 ≤ most) (w1 : most ≤ 9223372036854775807) :
    Calls Tryd.prog 37 #[.pointer (some ⟨g, 0, none⟩), .int .i64 most] w (NumP w g 8 most l err F) := by
  have c1 : Calls Tryd.prog 60 #[.pointer (some ⟨g, 0, none⟩), .int .i64 8, .int .i64 most] w (NumP w g 8 most l err F) := number_any w g 8 most l err F h (by omega) (by omega) w0 w1
  go_enter Tryd.func37, Tryd.ntmps37
  go_wp2_with (go_at_call 60; ((with_reducible refine c1.mono ?_); rintro e w4 ⟨rfl, hI4, hU4⟩))
  go_ret
  exact ⟨rfl, hI4, hU4⟩
set_option maxRecDepth 100000 in
set_option maxHeartbeats 1000000 in
theorem insmall_any (w : World) (g : Nat) (most : Int) (l : List UInt8) (err : Int) (F : List Nat) (h : InFc w g l err F) (w0 : -9223372036854775808 ≤ most) (w1 : most ≤ 9223372036854775807) :
    Calls Tryd.prog 36 #[.pointer (some ⟨g, 0, none⟩), .int .i64 most] w (NumP w g 1 most l err F) := by
  have c1 : Calls Tryd.prog 60 #[.pointer (some ⟨g, 0, none⟩), .int .i64 1, .int .i64 most] w (NumP w g 1 most l err F) := number_any w g 1 most l err F h (by omega) (by omega) w0 w1
  go_enter Tryd.func36, Tryd.ntmps36
  go_wp2_with (go_at_call 60; ((with_reducible refine c1.mono ?_); rintro e w4 ⟨rfl, hI4, hU4⟩))
  go_ret
  exact ⟨rfl, hI4, hU4⟩
/-- The end's answer. -/
def endS (l : List UInt8) (err : Int) : Int := if err ≠ 0 then err else if 0 < l.length then 4 else 0
set_option maxRecDepth 100000 in
set_option maxHeartbeats 1000000 in
theorem end_anyc (w : World) (g : Nat) (l : List UInt8) (err : Int) (F : List Nat) (h : InFc w g l err F) :
    Calls Tryd.prog 44 #[.pointer (some ⟨g, 0, none⟩)] w fun e w' => e = .returned (.int .i64 (endS l err)) ∧ w = w' := by
  obtain ⟨A, m, c, h⟩ := h.out
  have hc0 := h.head.cell 0
  have hc1 := h.head.cell 1
  simp only [List.getElem?_toArray, List.getElem?_cons_zero, List.getElem?_cons_succ] at hc0 hc1
  have hlen := h.len
  clear h
  by_cases he : err = 0
  · subst he
    by_cases hl : 0 < m
    · have hd : decide ((0 : Int) < (m : Int)) = true := decide_eq_true (by omega)
      have hd2 : decide (0 < m) = true := decide_eq_true hl
      have hE : Hid (endS l 0 = 4) := hidg_ (by unfold endS; rw [hlen]; simp [hl])
      clear hlen hl
      go_enter Tryd.func44, Tryd.ntmps44
      go_wp2
      go_ret
      exact ⟨by rw [hE.out]; rfl, rfl⟩
    · have hd : decide ((0 : Int) < (m : Int)) = false := decide_eq_false (by omega)
      have hd2 : decide (0 < m) = false := decide_eq_false hl
      have hE : Hid (endS l 0 = 0) := hidg_ (by unfold endS; rw [hlen]; simp [hl])
      clear hlen hl
      go_enter Tryd.func44, Tryd.ntmps44
      go_wp2
      go_ret
      exact ⟨by rw [hE.out]; rfl, rfl⟩
  · have hd : (err != 0) = true := by simpa using he
    have hE : Hid (endS l err = err) := hidg_ (if_pos he)
    clear hlen he
    go_enter Tryd.func44, Tryd.ntmps44
    go_wp2
    go_ret
    exact ⟨by rw [hE.out]; rfl, rfl⟩
/-- A new In, of the call's own. -/
def OfP (w : World) (l : List UInt8) (e : Ending) (w' : World) : Prop :=
  ∃ g F, e = .returned (.pointer (some ⟨g, 0, none⟩)) ∧ InFc w' g l 0 F ∧ (∀ k ∈ F, w.heap.size ≤ k ∧ k < w'.heap.size) ∧ Below w.heap.size w w'
set_option maxRecDepth 100000 in
set_option maxHeartbeats 1000000 in
theorem of_any (w : World) (A : Option Addr) (n c : Nat) (l : List UInt8) (hn : l.length = n) (hr : Rd w w.heap.size A l) (hm : n ≤ 140737488355328) :
    Calls Tryd.prog 35 #[.slice A n c] w (OfP w l) := by
  have c1 := clone_any A n c l w hn hr hm
  have HN := hidg_ hn
  clear hr hn
  go_enter Tryd.func35, Tryd.ntmps35
  go_wp2_with (go_at_call 32; ((with_reducible refine c1.mono ?_); rintro e w1 ⟨A1, c1', rfl, hO, hB⟩; have O1 := hidg_ hO; have B1 := hidg_ hB; clear hO hB))
  go_ret
  have hcap := O1.out.cap
  obtain ⟨_, _, e1, _, hbd⟩ := O1.out.form
  have hs := B1.out.size
  refine ⟨w1.heap.size, w1.heap.size :: (Value.slice A1 n c1').ownBlock.toList, rfl, ⟨by simp, A1, c1', ?_, ?_, ?_, by rw [HN.out]; exact hcap.1, hcap.2⟩, ?_, ?_⟩
  · rw [HN.out]
    exact Bk.new w1 _ _
  · exact (O1.out.rd.1.alloc (Nat.le_refl _) _).more (by simp)
  · intro a ea
    subst ea
    have hv : (Value.slice (some a) n c1').ownBlock = some a.block := rfl
    have := hbd _ hv
    exact ⟨by simp [hv], by omega, by simp; omega⟩
  · intro k hk
    rcases List.mem_cons.1 hk with e | hk
    · subst e; simp; omega
    · have hv : (Value.slice A1 n c1').ownBlock = some k := by simpa using hk
      have := hbd _ hv
      simp
      omega
  · exact B1.out.alloc hs _
end Go.Proofs.YtegfnlnbhhmkjaaDoor
