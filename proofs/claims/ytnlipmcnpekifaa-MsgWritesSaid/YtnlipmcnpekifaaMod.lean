/-
  What puts a message's parts: a row.
-/
import Derived.Test.YtnlipmcnpekifaaMoc
import Derived.Test.YtnlipmcnpekifaaChj
import Derived.Test.YtnlipmcnpekifaaGro
namespace Go.Proofs.Ytnlipmcnpekifaa
set_option maxRecDepth 100000
open Go.RowKit
set_option linter.unusedVariables false
set_option linter.unusedSimpArgs false

/-- A row of the program's in memory: its key, its bytes. -/
structure KrA where
  r : KrV
  sa : Option Addr
  sc : Nat
instance : Inhabited KrA := ⟨⟨default, none, 0⟩⟩
def krC (q : KrA) : List Value := (rowOf q.r.key).toList ++ [.slice q.sa q.r.set.length q.sc]
theorem krC_len (q : KrA) (h : q.r.key.length = 32) : (krC q).length = 33 := by simp [krC, rowOf, h]
theorem krC_last (q : KrA) (h : q.r.key.length = 32) : (krC q).toArray[32]? = some (.slice q.sa q.r.set.length q.sc) := by
  rw [List.getElem?_toArray, krC, List.getElem?_append_right (by simp [rowOf, h])]
  simp [rowOf, h]
theorem krC_key (q : KrA) (h : q.r.key.length = 32) (j : Nat) (hj : j < 32) : (krC q).toArray[j]? = (rowOf q.r.key)[j]? := by
  rw [List.getElem?_toArray, krC, List.getElem?_append_left (by simp [rowOf, h]; omega), Array.getElem?_toList]
structure KrA.Ok (w : World) (B : Nat) (q : KrA) : Prop where
  key : q.r.key.length = 32
  rd : Rd w B q.sa q.r.set
  cap : q.r.set.length ≤ q.sc ∧ q.sc ≤ 9223372036854775807
theorem KrA.Ok.below {w w' : World} {B : Nat} {q : KrA} (h : q.Ok w B) (hb : Below B w w') : q.Ok w' B := ⟨h.key, h.rd.below hb, h.cap⟩
theorem KrA.Ok.more {w : World} {B C : Nat} {q : KrA} (h : q.Ok w B) (hB : B ≤ C) : q.Ok w C := ⟨h.key, h.rd.more hB, h.cap⟩
/-- The Out's state while a row is put. -/
def MrS (w1 : World) (g : Nat) (F1 : List Nat) (l K s : List UInt8) (m : Nat) (W : World) : Prop :=
  ∃ F', OutF W g (if m = 0 then l else if m = 1 then l ++ K else l ++ K ++ highB 4 s.length ++ s) false false F' ∧ Grew w1 F1 F' ∧ Untouched F1 w1 W
theorem RdF.less {w w1 : World} {F : List Nat} {A : Option Addr} {l : List UInt8} (h : RdF w F A l) (hb : Below w.heap.size w w1) : RdF w1 (trim w F) A l :=
  h.keep (F' := trim w F) (Untouched.of_below hb) (fun k hk => .inl (mem_trim.1 hk).1)
set_option maxRecDepth 100000 in
set_option maxHeartbeats 4000000 in
theorem row_m (w : World) (g : Nat) (st : Option (List UInt8)) (b : Nat) (F : List Nat) (q : KrA) (hK : q.r.key.length = 32) (hr : RdF w F q.sa q.r.set) (h : MoF w g st b F) (hs : q.r.set.length ≤ 1000000000) (hb : b + 36 + q.r.set.length ≤ 140737488355328) :
    Calls Try.prog 18 #[.pointer (some ⟨g, 0, none⟩), .agg (krC q).toArray] w (MoP w g (krP q.r st) (b + 36 + q.r.set.length) F) := by
  obtain ⟨⟨K, s⟩, sa, sc⟩ := q
  simp only at hK hr hs hb ⊢
  obtain ⟨sl, hsl⟩ : ∃ x, s.length = x := ⟨_, rfl⟩
  obtain ⟨w1, hw1⟩ : ∃ x, w.alloc (.cells (krC ⟨⟨K, s⟩, sa, sc⟩).toArray 37) = x := ⟨_, rfl⟩
  have B1 := hidm_ (show Below w.heap.size w w1 by rw [← hw1]; exact (Below.refl _ _).alloc (Nat.le_refl _) _)
  obtain ⟨N, hN⟩ : ∃ x, w.heap.size = x := ⟨_, rfl⟩
  have K1 := hidm_ (show Bk w1 N 37 (krC ⟨⟨K, s⟩, sa, sc⟩).toArray by rw [← hw1, ← hN]; exact Bk.new w _ _)
  have hc32 := (K1.out.cell 32).trans (krC_last ⟨⟨K, s⟩, sa, sc⟩ hK)
  simp only [hsl] at hc32
  obtain ⟨l, wr, hO, hl, hst⟩ := h
  have cw := within_any w1 g l wr (trim w F) (sl : Int) 1048576 (hO.trim.below B1.out)
  have HL := hidm_ hl
  have HK := hidm_ hK
  have HN := hidm_ hN
  have HSL := hidm_ hsl
  rw [hsl] at hs hb
  have R1 := hidm_ (hr.less B1.out)
  have G1 := hidm_ (show Grew w F (trim w F) from fun k hk => .inl (mem_trim.1 hk).1)
  have U1 := hidm_ (Untouched.of_below (F := F) B1.out)
  have hNF : Hid (N ∉ trim w F) := hidm_ (fun hm => by have := (mem_trim.1 hm).2; rw [hN] at this; omega)
  have hbr := hidm_ (show b + 36 + s.length ≤ 140737488355328 by rw [hsl]; exact hb)
  by_cases hw : wrg wr (sl : Int) 1048576 = true
  · have e : krP ⟨K, s⟩ st = none := by
      rcases hst with ⟨rfl, rfl⟩ | ⟨rfl, rfl⟩
      · unfold wrg at hw
        simp only [Bool.false_or, Bool.or_eq_true, decide_eq_true_eq] at hw
        show (if s.length ≤ 1048576 then _ else _) = _
        rw [if_neg (by omega)]
      · rfl
    rw [e]
    rw [hw] at cw
    simp only [Bool.not_true] at cw
    clear hO hst hw e hr hl hK
    go_enter Try.func18, Try.ntmps18
    go_wp2_with (go_at_call 48; ((with_reducible refine cw.mono ?_); clear cw; rintro e w2 ⟨rfl, h1, h2⟩; have H1 := hidm_ h1; have H2 := hidm_ h2; clear h1 h2))
    refine bodyPost_ret (results_none rfl _ _ _) rfl ?_
    exact MoP.step G1.out U1.out ⟨rfl, _, ⟨l, true, H1.out, by have := HL.out; omega, .inr ⟨rfl, rfl⟩⟩, Grew.refl _ _, H2.out⟩
  · have hw2 : wrg wr (sl : Int) 1048576 = false := by simpa using hw
    have hw3 := hw2
    unfold wrg at hw3
    simp only [Bool.or_eq_false_iff, decide_eq_false_iff_not] at hw3
    obtain ⟨⟨rfl, h0⟩, h1⟩ := hw3
    obtain rfl : st = some l := by rcases hst with ⟨h, _⟩ | ⟨_, h⟩; exact h; cases h
    have e : krP ⟨K, s⟩ (some l) = some (l ++ K ++ highB 4 s.length ++ s) := by
      show (if s.length ≤ 1048576 then some (l ++ (K ++ (highB 4 s.length ++ s))) else _) = _
      rw [if_pos (by omega)]
      simp only [List.append_assoc]
    rw [e]
    rw [hw2] at cw
    simp only [Bool.not_false] at cw
    clear hO hst hw hw2 e hl h0 h1 hr hK
    go_enter Try.func18, Try.ntmps18
    go_upto_region 2 with (go_at_call 48; ((with_reducible refine cw.mono ?_); clear cw; rintro e w2 ⟨rfl, h1, h2⟩; have S0 := hidm_ (show MrS w1 g (trim w F) l K s 0 w2 from ⟨_, h1, Grew.refl _ _, h2⟩); clear h1 h2))
    have S0d := hidm_ (show MrS w1 g (trim w F) l K s 0 w2.drew from by obtain ⟨F0, a, b, c⟩ := S0.out; exact ⟨F0, a.below (below_drewN (Below.refl _ _) 1), b, c.trans b (Untouched.drewN 1)⟩)
    have CN := hidm_ (show ∀ (D : Nat → Bool) (W : World), ChJ [5, 8] (MrS w1 g (trim w F) l K s) D W → W.cell? ⟨N, 32, none⟩ = some (.slice sa sl sc) from fun D W hJ => by
      obtain ⟨m, _, _, F0, _, hG0, hU0⟩ := hJ
      rw [(K1.out.untouched hU0 hNF.out).cell 32, krC_last _ HK.out, HSL.out])
    refine region_byJF [9, 10, 11, 12, 13, 14, 15, 16, 17] (fun _ => True) (fun _ _ => True) (fun jR_ vR_ (wR_ : World) => (match jR_ with | 0 => vR_ = .pointer (some ⟨g, 0, none⟩) | 1 => vR_ = .pointer (some ⟨g, 0, none⟩) | 2 => vR_ = .pointer (some ⟨g, 0, none⟩) | 3 => vR_ = .pointer (some ⟨N, 0, none⟩) | 4 => vR_ = .slice (some ⟨N, 0, none⟩) 32 32 | 5 => vR_ = .pointer (some ⟨g, 0, none⟩) | 6 => vR_ = .pointer (some ⟨N, 32, none⟩) | 7 => vR_ = .slice sa sl sc | 8 => vR_ = .pointer (some ⟨g, 0, none⟩) | _ => True)) (fun D _ W => ChJ [5, 8] (MrS w1 g (trim w F) l K s) D W) (by kernel_rfl) (by kernel_rfl) (by kernel_rfl) (by kernel_rfl) (fun j v w w' hT hr => hr) (fun j v w hlt hj _ => ?_) trivial ?_ (ChJ.start (show MrS w1 g (trim w F) l K s 0 _ from S0d.out)) ?_
    · rcases j with _ | _ | _ | _ | _ | _ | _ | _ | _ | j
      all_goals first
        | (exfalso; simp [dstOf] at hj; done)
        | trivial
    · refine ⟨fun D a9 W hC hd hsz hf hv hJ hL hW K8 hK => ?_, fun D a9 W hC hd hsz hf hv hJ hL hW K8 hK => ?_, fun D a9 W hC hd hsz hf hv hJ hL hW K8 hK => ?_, fun D a9 W hC hd hsz hf hv hJ hL hW K8 hK => ?_, fun D a9 W hC hd hsz hf hv hJ hL hW K8 hK => ?_, fun D a9 W hC hd hsz hf hv hJ hL hW K8 hK => ?_, fun D a9 W hC hd hsz hf hv hJ hL hW K8 hK => ?_, fun D a9 W hC hd hsz hf hv hJ hL hW K8 hK => ?_, fun D a9 W hC hd hsz hf hv hJ hL hW K8 hK => ?_, trivial⟩
      · clear hsz
        have e1 := slot_of (a := a9) (s := 0) (v := .pointer (some ⟨g, 0, none⟩)) (hf 0 (by kernel_rfl))
        refine step_run (wanted_none rfl) (v := .pointer (some ⟨g, 0, none⟩)) (w' := W) ?_ (hK _ _ hC trivial rfl (hJ.same 0 (by decide)))
        go_simp
      · clear hsz
        have e1 := slot_of (a := a9) (s := 9) (v := .pointer (some ⟨g, 0, none⟩)) (hv 0 (by kernel_rfl))
        refine step_run (wanted_none rfl) (v := .pointer (some ⟨g, 0, none⟩)) (w' := W) ?_ (hK _ _ hC trivial rfl (hJ.same 1 (by decide)))
        go_simp
      · clear hsz
        have e1 := slot_of (a := a9) (s := 10) (v := .pointer (some ⟨g, 0, none⟩)) (hv 1 (by kernel_rfl))
        refine step_run (wanted_none rfl) (v := .pointer (some ⟨g, 0, none⟩)) (w' := W) ?_ (hK _ _ hC trivial rfl (hJ.same 2 (by decide)))
        go_simp
      · clear hsz
        have e1 := slot_of (a := a9) (s := 3) (v := .pointer (some ⟨N, 0, none⟩)) (hf 3 (by kernel_rfl))
        refine step_run (wanted_none rfl) (v := .pointer (some ⟨N, 0, none⟩)) (w' := W) ?_ (hK _ _ hC trivial rfl (hJ.same 3 (by decide)))
        go_simp
      · clear hsz
        have e1 := slot_of (a := a9) (s := 12) (v := .pointer (some ⟨N, 0, none⟩)) (hv 3 (by kernel_rfl))
        have hsb := slice_allBm N 0
        refine step_run (wanted_none rfl) (v := .slice (some ⟨N, 0, none⟩) 32 32) (w' := W) ?_ (hK _ _ hC trivial rfl (hJ.same 4 (by decide)))
        go_simp
      · clear hsz
        have e1 := slot_of (a := a9) (s := 11) (v := .pointer (some ⟨g, 0, none⟩)) (hv 2 (by kernel_rfl))
        have e2 := slot_of (a := a9) (s := 13) (v := .slice (some ⟨N, 0, none⟩) 32 32) (hv 4 (by kernel_rfl))
        obtain ⟨⟨F0, hO0, hG0, hU0⟩, hd⟩ := hJ.at_ 0 (by decide) hL (fun j hj e => by omega)
        have hlt := K1.out.lt
        have hNF0 : N ∉ F0 := fun hm => (hG0 N hm).elim (fun h => hNF.out h) (fun h => by omega)
        have hB0 := K1.out.untouched hU0 hNF.out
        have hRK : RdF W F0 (some ⟨N, 0, none⟩) K := fun _ => ⟨N, 0, rfl, hNF0, hB0.lt, fun j hj => by rw [Nat.zero_add, hB0.cell j, krC_key _ HK.out j (by have := HK.out; omega)]; exact rowOf_at K j hj⟩
        refine step_callx 51 #[.pointer (some ⟨g, 0, none⟩), .slice (some ⟨N, 0, none⟩) 32 32] (wanted_none rfl) (w' := W) ?_ ((fixed_any W g l false false F0 (some ⟨N, 0, none⟩) 32 32 K hO0 hRK HK.out (by have := HL.out; omega)).mono fun e W2 hh => ?_)
        · go_simp
        · obtain ⟨rfl, F2, h3, h4, h5⟩ := hh
          exact ⟨_, rfl, hK _ _ trivial trivial rfl (ChJ.next 0 (by decide) (by decide) hd ⟨F2, h3, hG0.trans hU0.size h4, hU0.trans hG0 h5⟩)⟩
      · clear hsz
        have e1 := slot_of (a := a9) (s := 3) (v := .pointer (some ⟨N, 0, none⟩)) (hf 3 (by kernel_rfl))
        refine step_run (wanted_none rfl) (v := .pointer (some ⟨N, 32, none⟩)) (w' := W) ?_ (hK _ _ hC trivial rfl (hJ.same 6 (by decide)))
        go_simp
      · clear hsz
        have e1 := slot_of (a := a9) (s := 15) (v := .pointer (some ⟨N, 32, none⟩)) (hv 6 (by kernel_rfl))
        have hcN : W.cell? ⟨N, 32, none⟩ = some (.slice sa sl sc) := CN.out D W hJ
        refine step_run (wanted_none rfl) (v := .slice sa sl sc) (w' := W) ?_ (hK _ _ hC trivial rfl (hJ.same 7 (by decide)))
        go_simp
      · clear hsz
        have e1 := slot_of (a := a9) (s := 14) (v := .pointer (some ⟨g, 0, none⟩)) (hv 5 (by kernel_rfl))
        have e2 := slot_of (a := a9) (s := 16) (v := .slice sa sl sc) (hv 7 (by kernel_rfl))
        obtain ⟨⟨F0, hO0, hG0, hU0⟩, hd⟩ := hJ.at_ 1 (by decide) hL (fun j hj e => by have hj0 : j = 0 := (by omega); subst hj0; exact hW 5 (by kernel_rfl))
        refine step_callx 52 #[.pointer (some ⟨g, 0, none⟩), .slice sa sl sc] (wanted_none rfl) (w' := W) ?_ ((bytes_any W g (l ++ K) false false F0 sa sl sc s hO0 (R1.out.keep hU0 hG0) HSL.out (by have := HL.out; have := HK.out; have := hbr.out; have := HSL.out; rw [List.length_append]; omega)).mono fun e W2 hh => ?_)
        · go_simp
        · obtain ⟨rfl, F2, h3, h4, h5⟩ := hh
          exact ⟨_, rfl, hK _ _ trivial trivial rfl (ChJ.next 1 (by decide) (by decide) hd ⟨F2, (by show OutF W2 g (l ++ K ++ highB 4 s.length ++ s) false false F2; rw [HSL.out]; exact h3), hG0.trans hU0.size h4, hU0.trans hG0 h5⟩)⟩
    · intro f w3 hC3 hv3 D3 hD3 hJ3
      obtain ⟨a3, hJ, _⟩ := hJ3
      obtain ⟨F3, h1, h2, h3⟩ := hJ.last 1 (by decide) rfl (hD3 8 (by decide))
      have H1 := hidm_ h1
      have H2 := hidm_ h2
      have H3 := hidm_ h3
      clear hv3 hD3 hJ hC3 h1 h2 h3
      simp only [framed, List.foldl_cons, List.foldl_nil, List.setIfInBounds_toArray, List.set_cons_succ, List.set_cons_zero]
      refine bodyPost_ret (results_none rfl _ _ _) rfl ?_
      exact MoP.step G1.out U1.out ⟨rfl, F3, ⟨_, false, H1.out, by have := HL.out; have := HK.out; have := HSL.out; simp [highB_len]; omega, .inl ⟨rfl, rfl⟩⟩, H2.out, H3.out⟩
end Go.Proofs.Ytnlipmcnpekifaa
