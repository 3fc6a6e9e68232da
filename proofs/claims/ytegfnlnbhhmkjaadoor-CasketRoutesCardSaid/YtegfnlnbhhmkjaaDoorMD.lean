/-
  Merged: Mod Moe Mof.
-/
import Derived.Test.YtegfnlnbhhmkjaaDoorMB
import Derived.Test.YtegfnlnbhhmkjaaDoorChj
import Derived.Test.YtegfnlnbhhmkjaaDoorMC
namespace Go.Proofs.YtegfnlnbhhmkjaaDoor
set_option maxRecDepth 100000
open Go.RowKit
set_option linter.unusedVariables false
set_option linter.unusedSimpArgs false

/-- A row of the program's in memory: its key, its bytes. -/
structure KrA where
  r : KrV
  sa : Option Addr
  sc : Nat
instance : Inhabited KrA := ⟨⟨default, none, 0⟩⟩
def krC (q : KrA) : List Value := (rowOf q.r.key).toList ++ [.slice q.sa q.r.set.length q.sc]
theorem krC_len (q : KrA) (h : q.r.key.length = 32) : (krC q).length = 33 := by simp [krC, rowOf, h]
theorem krC_last (q : KrA) (h : q.r.key.length = 32) : (krC q).toArray[32]? = some (.slice q.sa q.r.set.length q.sc) := by
  rw [List.getElem?_toArray, krC, List.getElem?_append_right (by simp [rowOf, h])]
  simp [rowOf, h]
theorem krC_key (q : KrA) (h : q.r.key.length = 32) (j : Nat) (hj : j < 32) : (krC q).toArray[j]? = (rowOf q.r.key)[j]? := by
  rw [List.getElem?_toArray, krC, List.getElem?_append_left (by simp [rowOf, h]; omega), Array.getElem?_toList]
structure KrA.Ok (w : World) (B : Nat) (q : KrA) : Prop where
  key : q.r.key.length = 32
  rd : Rd w B q.sa q.r.set
  cap : q.r.set.length ≤ q.sc ∧ q.sc ≤ 9223372036854775807
theorem KrA.Ok.below {w w' : World} {B : Nat} {q : KrA} (h : q.Ok w B) (hb : Below B w w') : q.Ok w' B := ⟨h.key, h.rd.below hb, h.cap⟩
theorem KrA.Ok.more {w : World} {B C : Nat} {q : KrA} (h : q.Ok w B) (hB : B ≤ C) : q.Ok w C := ⟨h.key, h.rd.more hB, h.cap⟩
/-- The Out's state while a row is put. -/
def MrS (w1 : World) (g : Nat) (F1 : List Nat) (l K s : List UInt8) (m : Nat) (W : World) : Prop :=
  ∃ F', OutF W g (if m = 0 then l else if m = 1 then l ++ K else l ++ K ++ highB 4 s.length ++ s) false false F' ∧ Grew w1 F1 F' ∧ Untouched F1 w1 W
theorem RdF.less {w w1 : World} {F : List Nat} {A : Option Addr} {l : List UInt8} (h : RdF w F A l) (hb : Below w.heap.size w w1) : RdF w1 (trim w F) A l :=
  h.keep (F' := trim w F) (Untouched.of_below hb) (fun k hk => .inl (mem_trim.1 hk).1)
set_option maxRecDepth 100000 in
set_option maxHeartbeats 4000000 in
theorem row_m (w : World) (g : Nat) (st : Option (List UInt8)) (b : Nat) (F : List Nat) (q : KrA) (hK : q.r.key.length = 32) (hr : RdF w F q.sa q.r.set) (h : MoF w g st b F) (hs : q.r.set.length ≤ 1000000000) (hb : b + 36 + q.r.set.length ≤ 140737488355328) :
    Calls Tryd.prog 23 #[.pointer (some ⟨g, 0, none⟩), .agg (krC q).toArray] w (MoP w g (krP q.r st) (b + 36 + q.r.set.length) F) := by
  obtain ⟨⟨K, s⟩, sa, sc⟩ := q
  simp only at hK hr hs hb ⊢
  obtain ⟨sl, hsl⟩ : ∃ x, s.length = x := ⟨_, rfl⟩
  obtain ⟨w1, hw1⟩ : ∃ x, w.alloc (.cells (krC ⟨⟨K, s⟩, sa, sc⟩).toArray 41) = x := ⟨_, rfl⟩
  have B1 := hidm_ (show Below w.heap.size w w1 by rw [← hw1]; exact (Below.refl _ _).alloc (Nat.le_refl _) _)
  obtain ⟨N, hN⟩ : ∃ x, w.heap.size = x := ⟨_, rfl⟩
  have K1 := hidm_ (show Bk w1 N 41 (krC ⟨⟨K, s⟩, sa, sc⟩).toArray by rw [← hw1, ← hN]; exact Bk.new w _ _)
  have hc32 := (K1.out.cell 32).trans (krC_last ⟨⟨K, s⟩, sa, sc⟩ hK)
  simp only [hsl] at hc32
  obtain ⟨l, wr, hO, hl, hst⟩ := h
  have cw := within_any w1 g l wr (trim w F) (sl : Int) 1048576 (hO.trim.below B1.out)
  have HL := hidm_ hl
  have HK := hidm_ hK
  have HN := hidm_ hN
  have HSL := hidm_ hsl
  rw [hsl] at hs hb
  have R1 := hidm_ (hr.less B1.out)
  have G1 := hidm_ (show Grew w F (trim w F) from fun k hk => .inl (mem_trim.1 hk).1)
  have U1 := hidm_ (Untouched.of_below (F := F) B1.out)
  have hNF : Hid (N ∉ trim w F) := hidm_ (fun hm => by have := (mem_trim.1 hm).2; rw [hN] at this; omega)
  have hbr := hidm_ (show b + 36 + s.length ≤ 140737488355328 by rw [hsl]; exact hb)
  by_cases hw : wrg wr (sl : Int) 1048576 = true
  · have e : krP ⟨K, s⟩ st = none := by
      rcases hst with ⟨rfl, rfl⟩ | ⟨rfl, rfl⟩
      · unfold wrg at hw
        simp only [Bool.false_or, Bool.or_eq_true, decide_eq_true_eq] at hw
        show (if s.length ≤ 1048576 then _ else _) = _
        rw [if_neg (by omega)]
      · rfl
    rw [e]
    rw [hw] at cw
    simp only [Bool.not_true] at cw
    clear hO hst hw e hr hl hK
    go_enter Tryd.func23, Tryd.ntmps23
    go_wp2_with (go_at_call 54; ((with_reducible refine cw.mono ?_); clear cw; rintro e w2 ⟨rfl, h1, h2⟩; have H1 := hidm_ h1; have H2 := hidm_ h2; clear h1 h2))
    refine bodyPost_ret (results_none rfl _ _ _) rfl ?_
    exact MoP.step G1.out U1.out ⟨rfl, _, ⟨l, true, H1.out, by have := HL.out; omega, .inr ⟨rfl, rfl⟩⟩, Grew.refl _ _, H2.out⟩
  · have hw2 : wrg wr (sl : Int) 1048576 = false := by simpa using hw
    have hw3 := hw2
    unfold wrg at hw3
    simp only [Bool.or_eq_false_iff, decide_eq_false_iff_not] at hw3
    obtain ⟨⟨rfl, h0⟩, h1⟩ := hw3
    obtain rfl : st = some l := by rcases hst with ⟨h, _⟩ | ⟨_, h⟩; exact h; cases h
    have e : krP ⟨K, s⟩ (some l) = some (l ++ K ++ highB 4 s.length ++ s) := by
      show (if s.length ≤ 1048576 then some (l ++ (K ++ (highB 4 s.length ++ s))) else _) = _
      rw [if_pos (by omega)]
      simp only [List.append_assoc]
    rw [e]
    rw [hw2] at cw
    simp only [Bool.not_false] at cw
    clear hO hst hw hw2 e hl h0 h1 hr hK
    go_enter Tryd.func23, Tryd.ntmps23
    go_upto_region 2 with (go_at_call 54; ((with_reducible refine cw.mono ?_); clear cw; rintro e w2 ⟨rfl, h1, h2⟩; have S0 := hidm_ (show MrS w1 g (trim w F) l K s 0 w2 from ⟨_, h1, Grew.refl _ _, h2⟩); clear h1 h2))
    have S0d := hidm_ (show MrS w1 g (trim w F) l K s 0 w2.drew from by obtain ⟨F0, a, b, c⟩ := S0.out; exact ⟨F0, a.below (below_drewN (Below.refl _ _) 1), b, c.trans b (Untouched.drewN 1)⟩)
    have CN := hidm_ (show ∀ (D : Nat → Bool) (W : World), ChJ [5, 8] (MrS w1 g (trim w F) l K s) D W → W.cell? ⟨N, 32, none⟩ = some (.slice sa sl sc) from fun D W hJ => by
      obtain ⟨m, _, _, F0, _, hG0, hU0⟩ := hJ
      rw [(K1.out.untouched hU0 hNF.out).cell 32, krC_last _ HK.out, HSL.out])
    refine region_byJF [9, 10, 11, 12, 13, 14, 15, 16, 17] (fun _ => True) (fun _ _ => True) (fun jR_ vR_ (wR_ : World) => (match jR_ with | 0 => vR_ = .pointer (some ⟨g, 0, none⟩) | 1 => vR_ = .pointer (some ⟨g, 0, none⟩) | 2 => vR_ = .pointer (some ⟨g, 0, none⟩) | 3 => vR_ = .pointer (some ⟨N, 0, none⟩) | 4 => vR_ = .slice (some ⟨N, 0, none⟩) 32 32 | 5 => vR_ = .pointer (some ⟨g, 0, none⟩) | 6 => vR_ = .pointer (some ⟨N, 32, none⟩) | 7 => vR_ = .slice sa sl sc | 8 => vR_ = .pointer (some ⟨g, 0, none⟩) | _ => True)) (fun D _ W => ChJ [5, 8] (MrS w1 g (trim w F) l K s) D W) (by kernel_rfl) (by kernel_rfl) (by kernel_rfl) (by kernel_rfl) (fun j v w w' hT hr => hr) (fun j v w hlt hj _ => ?_) trivial ?_ (ChJ.start (show MrS w1 g (trim w F) l K s 0 _ from S0d.out)) ?_
    · rcases j with _ | _ | _ | _ | _ | _ | _ | _ | _ | j
      all_goals first
        | (exfalso; simp [dstOf] at hj; done)
        | trivial
    · refine ⟨fun D a9 W hC hd hsz hf hv hJ hL hW K8 hK => ?_, fun D a9 W hC hd hsz hf hv hJ hL hW K8 hK => ?_, fun D a9 W hC hd hsz hf hv hJ hL hW K8 hK => ?_, fun D a9 W hC hd hsz hf hv hJ hL hW K8 hK => ?_, fun D a9 W hC hd hsz hf hv hJ hL hW K8 hK => ?_, fun D a9 W hC hd hsz hf hv hJ hL hW K8 hK => ?_, fun D a9 W hC hd hsz hf hv hJ hL hW K8 hK => ?_, fun D a9 W hC hd hsz hf hv hJ hL hW K8 hK => ?_, fun D a9 W hC hd hsz hf hv hJ hL hW K8 hK => ?_, trivial⟩
      · clear hsz
        have e1 := slot_of (a := a9) (s := 0) (v := .pointer (some ⟨g, 0, none⟩)) (hf 0 (by kernel_rfl))
        refine step_run (wanted_none rfl) (v := .pointer (some ⟨g, 0, none⟩)) (w' := W) ?_ (hK _ _ hC trivial rfl (hJ.same 0 (by decide)))
        go_simp
      · clear hsz
        have e1 := slot_of (a := a9) (s := 9) (v := .pointer (some ⟨g, 0, none⟩)) (hv 0 (by kernel_rfl))
        refine step_run (wanted_none rfl) (v := .pointer (some ⟨g, 0, none⟩)) (w' := W) ?_ (hK _ _ hC trivial rfl (hJ.same 1 (by decide)))
        go_simp
      · clear hsz
        have e1 := slot_of (a := a9) (s := 10) (v := .pointer (some ⟨g, 0, none⟩)) (hv 1 (by kernel_rfl))
        refine step_run (wanted_none rfl) (v := .pointer (some ⟨g, 0, none⟩)) (w' := W) ?_ (hK _ _ hC trivial rfl (hJ.same 2 (by decide)))
        go_simp
      · clear hsz
        have e1 := slot_of (a := a9) (s := 3) (v := .pointer (some ⟨N, 0, none⟩)) (hf 3 (by kernel_rfl))
        refine step_run (wanted_none rfl) (v := .pointer (some ⟨N, 0, none⟩)) (w' := W) ?_ (hK _ _ hC trivial rfl (hJ.same 3 (by decide)))
        go_simp
      · clear hsz
        have e1 := slot_of (a := a9) (s := 12) (v := .pointer (some ⟨N, 0, none⟩)) (hv 3 (by kernel_rfl))
        have hsb := slice_allBm N 0
        refine step_run (wanted_none rfl) (v := .slice (some ⟨N, 0, none⟩) 32 32) (w' := W) ?_ (hK _ _ hC trivial rfl (hJ.same 4 (by decide)))
        go_simp
      · clear hsz
        have e1 := slot_of (a := a9) (s := 11) (v := .pointer (some ⟨g, 0, none⟩)) (hv 2 (by kernel_rfl))
        have e2 := slot_of (a := a9) (s := 13) (v := .slice (some ⟨N, 0, none⟩) 32 32) (hv 4 (by kernel_rfl))
        obtain ⟨⟨F0, hO0, hG0, hU0⟩, hd⟩ := hJ.at_ 0 (by decide) hL (fun j hj e => by omega)
        have hlt := K1.out.lt
        have hNF0 : N ∉ F0 := fun hm => (hG0 N hm).elim (fun h => hNF.out h) (fun h => by omega)
        have hB0 := K1.out.untouched hU0 hNF.out
        have hRK : RdF W F0 (some ⟨N, 0, none⟩) K := fun _ => ⟨N, 0, rfl, hNF0, hB0.lt, fun j hj => by rw [Nat.zero_add, hB0.cell j, krC_key _ HK.out j (by have := HK.out; omega)]; exact rowOf_at K j hj⟩
        refine step_callx 57 #[.pointer (some ⟨g, 0, none⟩), .slice (some ⟨N, 0, none⟩) 32 32] (wanted_none rfl) (w' := W) ?_ ((fixed_any W g l false false F0 (some ⟨N, 0, none⟩) 32 32 K hO0 hRK HK.out (by have := HL.out; omega)).mono fun e W2 hh => ?_)
        · go_simp
        · obtain ⟨rfl, F2, h3, h4, h5⟩ := hh
          exact ⟨_, rfl, hK _ _ trivial trivial rfl (ChJ.next 0 (by decide) (by decide) hd ⟨F2, h3, hG0.trans hU0.size h4, hU0.trans hG0 h5⟩)⟩
      · clear hsz
        have e1 := slot_of (a := a9) (s := 3) (v := .pointer (some ⟨N, 0, none⟩)) (hf 3 (by kernel_rfl))
        refine step_run (wanted_none rfl) (v := .pointer (some ⟨N, 32, none⟩)) (w' := W) ?_ (hK _ _ hC trivial rfl (hJ.same 6 (by decide)))
        go_simp
      · clear hsz
        have e1 := slot_of (a := a9) (s := 15) (v := .pointer (some ⟨N, 32, none⟩)) (hv 6 (by kernel_rfl))
        have hcN : W.cell? ⟨N, 32, none⟩ = some (.slice sa sl sc) := CN.out D W hJ
        refine step_run (wanted_none rfl) (v := .slice sa sl sc) (w' := W) ?_ (hK _ _ hC trivial rfl (hJ.same 7 (by decide)))
        go_simp
      · clear hsz
        have e1 := slot_of (a := a9) (s := 14) (v := .pointer (some ⟨g, 0, none⟩)) (hv 5 (by kernel_rfl))
        have e2 := slot_of (a := a9) (s := 16) (v := .slice sa sl sc) (hv 7 (by kernel_rfl))
        obtain ⟨⟨F0, hO0, hG0, hU0⟩, hd⟩ := hJ.at_ 1 (by decide) hL (fun j hj e => by have hj0 : j = 0 := (by omega); subst hj0; exact hW 5 (by kernel_rfl))
        refine step_callx 58 #[.pointer (some ⟨g, 0, none⟩), .slice sa sl sc] (wanted_none rfl) (w' := W) ?_ ((bytes_any W g (l ++ K) false false F0 sa sl sc s hO0 (R1.out.keep hU0 hG0) HSL.out (by have := HL.out; have := HK.out; have := hbr.out; have := HSL.out; rw [List.length_append]; omega)).mono fun e W2 hh => ?_)
        · go_simp
        · obtain ⟨rfl, F2, h3, h4, h5⟩ := hh
          exact ⟨_, rfl, hK _ _ trivial trivial rfl (ChJ.next 1 (by decide) (by decide) hd ⟨F2, (by show OutF W2 g (l ++ K ++ highB 4 s.length ++ s) false false F2; rw [HSL.out]; exact h3), hG0.trans hU0.size h4, hU0.trans hG0 h5⟩)⟩
    · intro f w3 hC3 hv3 D3 hD3 hJ3
      obtain ⟨a3, hJ, _⟩ := hJ3
      obtain ⟨F3, h1, h2, h3⟩ := hJ.last 1 (by decide) rfl (hD3 8 (by decide))
      have H1 := hidm_ h1
      have H2 := hidm_ h2
      have H3 := hidm_ h3
      clear hv3 hD3 hJ hC3 h1 h2 h3
      simp only [framed, List.foldl_cons, List.foldl_nil, List.setIfInBounds_toArray, List.set_cons_succ, List.set_cons_zero]
      refine bodyPost_ret (results_none rfl _ _ _) rfl ?_
      exact MoP.step G1.out U1.out ⟨rfl, F3, ⟨_, false, H1.out, by have := HL.out; have := HK.out; have := HSL.out; simp [highB_len]; omega, .inl ⟨rfl, rfl⟩⟩, H2.out, H3.out⟩
end Go.Proofs.YtegfnlnbhhmkjaaDoor

namespace Go.Proofs.YtegfnlnbhhmkjaaDoor
set_option maxRecDepth 100000
open Go.RowKit
set_option linter.unusedVariables false
set_option linter.unusedSimpArgs false

/-- Thirty-two bytes, whatever l is. -/
def pad32 (l : List UInt8) : List UInt8 := (l ++ zbytes 32).take 32
theorem pad32_len (l : List UInt8) : (pad32 l).length = 32 := by unfold pad32; rw [List.length_take, List.length_append, zbytes_len]; omega
theorem pad32_id {l : List UInt8} (h : l.length = 32) : pad32 l = l := by unfold pad32; rw [← h, List.take_left]
theorem pad32_nil : pad32 [] = zbytes 32 := rfl
theorem row_one (l : List UInt8) : ∀ u ∈ (rowOf l).toList, u.oneCell' = true := one_of_row l
def digE : Enc (List UInt8) := ⟨32, by decide, fun l => (rowOf (pad32 l)).toList, fun l => by simp [rowOf, pad32_len], fun x => one_of_row _⟩
def padR (q : KrA) : KrA := ⟨⟨pad32 q.r.key, q.r.set⟩, q.sa, q.sc⟩
theorem padR_id {q : KrA} (h : q.r.key.length = 32) : padR q = q := by
  obtain ⟨⟨k, s⟩, a, c⟩ := q
  unfold padR
  simp only at h ⊢
  rw [pad32_id h]
def krE : Enc KrA := ⟨33, by decide, fun q => krC (padR q), fun q => krC_len _ (pad32_len _), fun q u h => by
  rcases List.mem_append.1 h with h | h
  · exact one_of_row _ u h
  · rw [List.mem_singleton.1 h]; rfl⟩
theorem i32m (l : List UInt8) (h : l.length = 32) : (Tryd.prog.info? 22).map (·.size) = some (rowOf l).size := by rw [rowOf_size, h]; kernel_rfl
theorem i33m (q : KrA) (h : q.r.key.length = 32) : (Tryd.prog.info? 41).map (·.size) = some (krC q).toArray.size := by rw [List.size_toArray, krC_len q h]; kernel_rfl
theorem z32m (W : World) : (zeroValue 22).run Tryd.prog W = .ok (.agg (rowOf (zbytes 32))) W := by kernel_rfl
def kr0 : KrA := ⟨⟨zbytes 32, []⟩, none, 0⟩
theorem z33m (W : World) : (zeroValue 41).run Tryd.prog W = .ok (.agg (krC kr0).toArray) W := by kernel_rfl
theorem krC_one (q : KrA) : (krC q).toArray.all (·.oneCell') = true := by
  rw [Array.all_eq_true_iff_forall_mem]
  intro v hv
  have hv2 : v ∈ (rowOf q.r.key).toList ++ [Value.slice q.sa q.r.set.length q.sc] := List.mem_toArray.1 hv
  rcases List.mem_append.1 hv2 with h | h
  · exact one_of_row _ v h
  · rw [List.mem_singleton.1 h]; rfl
/-- A row whose memory is none of the blocks F. -/
def RdGF {α : Type} (N : Enc α) (w : World) (F : List Nat) (A : Option Addr) (l : List α) : Prop :=
  0 < l.length → ∃ b off, A = some ⟨b, off, none⟩ ∧ b ∉ F ∧ b < w.heap.size ∧ ∀ j (h : j < l.length) (i : Nat), i < N.k → w.cell? ⟨b, off + j * N.k + i, none⟩ = (N.c l[j])[i]?
theorem RdGF.keep {α : Type} {N : Enc α} {w w' : World} {F F' : List Nat} {A : Option Addr} {l : List α} (h : RdGF N w F A l) (hu : Untouched F w w') (hg : Grew w F F') : RdGF N w' F' A l := fun hn => by
  obtain ⟨b, off, e, hbF, hb, hc⟩ := h hn
  exact ⟨b, off, e, fun hm => by rcases hg b hm with h1 | h1; exact hbF h1; omega, Nat.lt_of_lt_of_le hb hu.size, fun j hj i hi => (World.cell?_of_block (hu.block b hb hbF)).trans (hc j hj i hi)⟩
theorem RdG.rdgf {α : Type} {N : Enc α} {w : World} {B : Nat} {F : List Nat} {A : Option Addr} {l : List α} (h : RdG N w B A l) (hB : B ≤ w.heap.size) (hF : ∀ k ∈ F, B ≤ k) : RdGF N w F A l := fun hn => by
  obtain ⟨b, off, e, hb, hc⟩ := h hn
  exact ⟨b, off, e, fun hm => by have := hF b hm; omega, by omega, hc⟩
/-- All items, one behind the other. -/
def foldP {β : Type} (f : β → Option (List UInt8) → Option (List UInt8)) (l : List β) (st : Option (List UInt8)) : Option (List UInt8) := l.foldl (fun s x => f x s) st
theorem foldP_none {β : Type} {f : β → Option (List UInt8) → Option (List UInt8)} (hf : ∀ x, f x none = none) : ∀ l, foldP f l none = none
  | [] => rfl
  | x :: l => by
    show foldP f l (f x none) = none
    rw [hf]
    exact foldP_none hf l
theorem foldP_stop {β : Type} {f : β → Option (List UInt8) → Option (List UInt8)} (hf : ∀ x, f x none = none) (l : List β) (k : Nat) (st : Option (List UInt8)) (h : foldP f (l.take k) st = none) : foldP f l st = none := by
  have e : l = l.take k ++ l.drop k := (List.take_append_drop k l).symm
  rw [e]
  unfold foldP at h ⊢
  rw [List.foldl_append, h]
  exact foldP_none hf _
theorem foldP_snoc {β : Type} (f : β → Option (List UInt8) → Option (List UInt8)) (l : List β) (k : Nat) (h : k < l.length) (st : Option (List UInt8)) : foldP f (l.take (k + 1)) st = f l[k] (foldP f (l.take k) st) := by
  unfold foldP
  rw [List.take_succ_eq_append_getElem h, List.foldl_append]
  rfl
set_option maxRecDepth 100000 in
set_option maxHeartbeats 4000000 in
theorem puts_at (w : World) (g : Nat) (st : Option (List UInt8)) (b : Nat) (F : List Nat) (A : Option Addr) (n c : Nat) (l : List (Int)) (hn : l.length = n) (hr : RdGF intE w F A l) (h : MoF w g st b F) (hl : n ≤ 100000) (hb : b ≤ 1000000000) :
    Calls Tryd.prog 25 #[.pointer (some ⟨g, 0, none⟩), .slice A n c, .func (.func 26) #[.pointer (some ⟨g, 0, none⟩)] #[]] w (MoP w g (foldP (fun z => nuP z 255) l (smP (n : Int) 255 st)) (b + 1 + 8 * n) F) := by
  have c0 := small_m w g st b F (n : Int) 255 h (by omega) (by omega)
  have HN := hidm_ hn
  have HR := hidm_ hr
  clear hn hr h
  go_enter Tryd.func25, Tryd.ntmps25
  go_wp2_with (go_at_call 21; ((with_reducible refine c0.mono ?_); clear c0; rintro e w1 ⟨rfl, F1, h1, h2, h3⟩; have H1 := hidm_ h1; have H2 := hidm_ h2; have H3 := hidm_ h3; clear h1 h2 h3))
  go_loopw [14] (fun i wr => ∃ (k : Nat) (F2 : List Nat), i = .int .i64 k ∧ k ≤ n ∧ Hid (MoF wr g (foldP (fun z => nuP z 255) (l.take k) (smP (n : Int) 255 st)) (b + 1 + 8 * k) F2) ∧ Hid (Grew w F F2) ∧ Hid (Untouched F w wr)) (fun i _ => n - (intOf i).toNat)
  case atStart => exact ⟨0, F1, rfl, Nat.zero_le _, hidm_ (by rw [Nat.mul_zero, Nat.add_zero]; exact H1.out), H2, H3⟩
  case round =>
    obtain ⟨k, F2, rfl, hk, HM2, HG2, HU2⟩ := hrel
    by_cases hlt : k < n
    · have tl : (k : Int) < (n : Int) := by omega
      obtain ⟨bb, off, rfl, hbF, hbl, hc⟩ := (HR.out.keep HU2.out HG2.out) (by rw [HN.out]; omega)
      have hlk : k < l.length := by rw [HN.out]; exact hlt
      have hc1 := hc k hlk
      have HS := hidm_ (foldP_snoc (fun z => nuP z 255) l k hlk (smP (n : Int) 255 st))
      have HST := hidm_ (fun hh => foldP_stop (f := (fun z => nuP z 255)) (fun _ => rfl) l k (smP (n : Int) 255 st) hh)
      have HZM := hidm_ (List.getElem_mem hlk)
      obtain ⟨z, hz⟩ : ∃ z, l[k] = z := ⟨_, rfl⟩
      rw [hz] at hc1 HS HZM
      have hcz := hc1 0 (by decide)
      have hcy : wr.cell? ⟨bb, off + k, none⟩ = some (.int .i64 z) := by rw [show off + k = off + k * 1 + 0 by omega]; exact hcz
      obtain ⟨wf, hwf, hwi⟩ := HM2.out.cell
      have cs := at_m wr g (foldP (fun z => nuP z 255) (l.take k) (smP (n : Int) 255 st)) (b + 1 + 8 * k) F2 z HM2.out (by omega)
      have HWI := hidm_ hwi
      clear hc hc1 hz hcz hwi
      cases wf with
      | true =>
        have HST2 := hidm_ (HWI.out.1 rfl)
        go_wp2
        refine bodyPost_ret (results_none rfl _ _ _) rfl ?_
        have hst := HST2.out
        refine ⟨rfl, F2, ?_, HG2.out, HU2.out⟩
        have hm := HM2.out
        rw [hst] at hm
        rw [HST.out hst]
        exact hm.mono (by omega)
      | false =>
        go_wp2_with (go_at_call 26; ((with_reducible refine cs.mono ?_); clear cs; rintro e w3 ⟨rfl, F3, h1, h2, h3⟩; have K1 := hidm_ h1; have K2 := hidm_ h2; have K3 := hidm_ h3; clear h1 h2 h3))
        go_roundw
        case rel => exact ⟨k + 1, F3, by go_num, by omega, hidm_ (by rw [HS.out, show b + 1 + 8 * (k + 1) = b + 1 + 8 * k + 8 by omega]; exact K1.out), hidm_ (HG2.out.trans HU2.out.size K2.out), hidm_ (HU2.out.trans HG2.out K3.out)⟩
        case measure => simp [intOf]; omega
    · have tl : ¬ (k : Int) < (n : Int) := by omega
      have HE := hidm_ (show k = n by omega)
      go_wp2
      refine bodyPost_ret (results_none rfl _ _ _) rfl ?_
      exact ⟨rfl, F2, by have := HM2.out; rw [HE.out, ← HN.out, List.take_length] at this; rw [← HN.out]; exact this, HG2.out, HU2.out⟩
set_option maxRecDepth 100000 in
set_option maxHeartbeats 4000000 in
theorem puts_dig (w : World) (g : Nat) (st : Option (List UInt8)) (b : Nat) (F : List Nat) (A : Option Addr) (n c : Nat) (l : List (List UInt8)) (hn : l.length = n) (hr : RdGF digE w F A l) (h32 : ∀ x ∈ l, x.length = 32) (h : MoF w g st b F) (hl : n ≤ 100000) (hb : b ≤ 1000000000) :
    Calls Tryd.prog 27 #[.pointer (some ⟨g, 0, none⟩), .slice A n c, .func (.func 24) #[.pointer (some ⟨g, 0, none⟩)] #[]] w (MoP w g (foldP fxP l (smP (n : Int) 255 st)) (b + 1 + 32 * n) F) := by
  have c0 := small_m w g st b F (n : Int) 255 h (by omega) (by omega)
  have HN := hidm_ hn
  have HR := hidm_ hr
  have H32 := hidm_ h32
  clear h32
  clear hn hr h
  go_enter Tryd.func27, Tryd.ntmps27
  go_wp2_with (go_at_call 21; ((with_reducible refine c0.mono ?_); clear c0; rintro e w1 ⟨rfl, F1, h1, h2, h3⟩; have H1 := hidm_ h1; have H2 := hidm_ h2; have H3 := hidm_ h3; clear h1 h2 h3))
  go_loopw [14] (fun i wr => ∃ (k : Nat) (F2 : List Nat), i = .int .i64 k ∧ k ≤ n ∧ Hid (MoF wr g (foldP fxP (l.take k) (smP (n : Int) 255 st)) (b + 1 + 32 * k) F2) ∧ Hid (Grew w F F2) ∧ Hid (Untouched F w wr)) (fun i _ => n - (intOf i).toNat)
  case atStart => exact ⟨0, F1, rfl, Nat.zero_le _, hidm_ (by rw [Nat.mul_zero, Nat.add_zero]; exact H1.out), H2, H3⟩
  case round =>
    obtain ⟨k, F2, rfl, hk, HM2, HG2, HU2⟩ := hrel
    by_cases hlt : k < n
    · have tl : (k : Int) < (n : Int) := by omega
      obtain ⟨bb, off, rfl, hbF, hbl, hc⟩ := (HR.out.keep HU2.out HG2.out) (by rw [HN.out]; omega)
      have hlk : k < l.length := by rw [HN.out]; exact hlt
      have hc1 := hc k hlk
      have HS := hidm_ (foldP_snoc fxP l k hlk (smP (n : Int) 255 st))
      have HST := hidm_ (fun hh => foldP_stop (f := fxP) (fun _ => rfl) l k (smP (n : Int) 255 st) hh)
      have HZM := hidm_ (List.getElem_mem hlk)
      obtain ⟨z, hz⟩ : ∃ z, l[k] = z := ⟨_, rfl⟩
      rw [hz] at hc1 HS HZM
      have ZL := hidm_ (H32.out z HZM.out)
      have hcy : ∀ j, j < (rowOf z).size → wr.cell? ⟨bb, off + k * 32 + j, none⟩ = (rowOf z)[j]? := fun j hj => by
        rw [rowOf_size, ZL.out] at hj
        refine (hc1 j hj).trans ?_
        show (rowOf (pad32 z)).toList[j]? = _
        rw [pad32_id ZL.out, Array.getElem?_toList]
      have hi := i32m z ZL.out
      have hz0 := z32m
      have h1c := bytes_one z
      have hs0 : (rowOf (zbytes 32)).size = (rowOf z).size := by rw [rowOf_size, rowOf_size, zbytes_len, ZL.out]
      obtain ⟨wf, hwf, hwi⟩ := HM2.out.cell
      have HWI := hidm_ hwi
      have hwfg : Hid (g < wr.heap.size) := hidm_ (by obtain ⟨_, _, ho, _⟩ := HM2.out; exact ho.inw)
      obtain ⟨gq, hgq⟩ : ∃ x, wr.heap.size = x := ⟨_, rfl⟩
      have HGQ := hidm_ hgq
      have HWF := hidm_ hwf
      clear hc hc1 hz hwi hwf
      go_upto_region 4 with (first
        | (refine wpList_load_sub rfl 22 (.tmp 16) rfl bb (off + k * 32) rfl (rowOf z) hcy _ Tryd.underlying22 rfl hi ?_)
        | (refine wpList_put_row rfl 22 (.tmp 7) (.tmp 17) rfl gq (rowOf z) rfl rfl 22 (rowOf (zbytes 32)) (by rw [← HGQ.out]; exact Bk.new wr _ _) hi hs0 h1c ?_; intro wq kq gq9 sq9; have KQ := hidm_ kq; have BQ := hidm_ (show Below wr.heap.size wr wq from ((Below.refl wr.heap.size wr).alloc (Nat.le_refl _) _).grown gq9 (by simp) (fun j hj => by injection hj with hj; rw [HGQ.out]; omega)); clear kq gq9 sq9))
      have HM3 := hidm_ (show MoF wq g (foldP fxP (l.take k) (smP (n : Int) 255 st)) (b + 1 + 32 * k) (trim wr F2) by obtain ⟨l0, w0, o0, o1, o2⟩ := HM2.out; exact ⟨l0, w0, o0.trim.below BQ.out, o1, o2⟩)
      have hwf : wq.cell? ⟨g, 3, none⟩ = some (.bool wf) := (BQ.out.cell (p := ⟨g, 3, none⟩) hwfg.out).trans HWF.out
      have HG3 := hidm_ (show Grew w F (trim wr F2) from fun j hj => HG2.out j (mem_trim.1 hj).1)
      have HU3 := hidm_ (HU2.out.trans HG2.out (Untouched.of_below (F := F2) BQ.out))
      have cs := fixed_m wq g (foldP fxP (l.take k) (smP (n : Int) 255 st)) (b + 1 + 32 * k) (trim wr F2) z ZL.out HM3.out (by omega)
      clear hcy hz0 h1c hs0
      cases wf with
      | true =>
        have HST2 := hidm_ (HWI.out.1 rfl)
        clear cs
        go_wp2
        refine bodyPost_ret (results_none rfl _ _ _) rfl ?_
        have hst := HST2.out
        refine ⟨rfl, trim wr F2, ?_, HG3.out, HU3.out⟩
        have hm := HM3.out
        rw [hst] at hm
        rw [HST.out hst]
        exact hm.mono (by omega)
      | false =>
        go_wp2_with (first
          | (refine wpList_load_row rfl 22 (.tmp 7) rfl gq rfl 22 (rowOf z) (0, 0) _ KQ.out Tryd.underlying22 rfl hi ?_)
          | (go_at_call 24; ((with_reducible refine cs.mono ?_); clear cs; rintro e w3 ⟨rfl, F3, h1, h2, h3⟩; have K1 := hidm_ h1; have K2 := hidm_ h2; have K3 := hidm_ h3; clear h1 h2 h3)))
        go_roundw
        case rel => exact ⟨k + 1, F3, by go_num, by omega, hidm_ (by rw [HS.out]; exact K1.out.mono (by omega)), hidm_ (HG3.out.trans HU3.out.size K2.out), hidm_ (HU3.out.trans HG3.out K3.out)⟩
        case measure => simp [intOf]; omega
    · have tl : ¬ (k : Int) < (n : Int) := by omega
      have HE := hidm_ (show k = n by omega)
      go_wp2
      refine bodyPost_ret (results_none rfl _ _ _) rfl ?_
      exact ⟨rfl, F2, by have := HM2.out; rw [HE.out, ← HN.out, List.take_length] at this; rw [← HN.out]; exact this, HG2.out, HU2.out⟩
set_option maxRecDepth 100000 in
set_option maxHeartbeats 4000000 in
theorem puts_row (w : World) (g : Nat) (st : Option (List UInt8)) (b : Nat) (F : List Nat) (A : Option Addr) (n c : Nat) (l : List (KrA)) (hn : l.length = n) (hr : RdGF krE w F A l) (h32 : ∀ q ∈ l, q.r.key.length = 32 ∧ RdF w F q.sa q.r.set ∧ q.r.set.length ≤ 1048576) (h : MoF w g st b F) (hl : n ≤ 100000) (hb : b ≤ 1000000000) :
    Calls Tryd.prog 28 #[.pointer (some ⟨g, 0, none⟩), .slice A n c, .func (.func 23) #[.pointer (some ⟨g, 0, none⟩)] #[]] w (MoP w g (foldP (fun q : KrA => krP q.r) l (smP (n : Int) 255 st)) (b + 1 + 1048612 * n) F) := by
  have c0 := small_m w g st b F (n : Int) 255 h (by omega) (by omega)
  have HN := hidm_ hn
  have HR := hidm_ hr
  have H32 := hidm_ h32
  clear h32
  clear hn hr h
  go_enter Tryd.func28, Tryd.ntmps28
  go_wp2_with (go_at_call 21; ((with_reducible refine c0.mono ?_); clear c0; rintro e w1 ⟨rfl, F1, h1, h2, h3⟩; have H1 := hidm_ h1; have H2 := hidm_ h2; have H3 := hidm_ h3; clear h1 h2 h3))
  go_loopw [14] (fun i wr => ∃ (k : Nat) (F2 : List Nat), i = .int .i64 k ∧ k ≤ n ∧ Hid (MoF wr g (foldP (fun q : KrA => krP q.r) (l.take k) (smP (n : Int) 255 st)) (b + 1 + 1048612 * k) F2) ∧ Hid (Grew w F F2) ∧ Hid (Untouched F w wr)) (fun i _ => n - (intOf i).toNat)
  case atStart => exact ⟨0, F1, rfl, Nat.zero_le _, hidm_ (by rw [Nat.mul_zero, Nat.add_zero]; exact H1.out), H2, H3⟩
  case round =>
    obtain ⟨k, F2, rfl, hk, HM2, HG2, HU2⟩ := hrel
    by_cases hlt : k < n
    · have tl : (k : Int) < (n : Int) := by omega
      obtain ⟨bb, off, rfl, hbF, hbl, hc⟩ := (HR.out.keep HU2.out HG2.out) (by rw [HN.out]; omega)
      have hlk : k < l.length := by rw [HN.out]; exact hlt
      have hc1 := hc k hlk
      have HS := hidm_ (foldP_snoc (fun q : KrA => krP q.r) l k hlk (smP (n : Int) 255 st))
      have HST := hidm_ (fun hh => foldP_stop (f := (fun q : KrA => krP q.r)) (fun _ => rfl) l k (smP (n : Int) 255 st) hh)
      have HZM := hidm_ (List.getElem_mem hlk)
      obtain ⟨z, hz⟩ : ∃ z, l[k] = z := ⟨_, rfl⟩
      rw [hz] at hc1 HS HZM
      have ZL := hidm_ (show z.r.key.length = 32 ∧ z.r.set.length ≤ 1048576 from ⟨(H32.out z HZM.out).1, (H32.out z HZM.out).2.2⟩)
      have ZR := hidm_ ((H32.out z HZM.out).2.1.keep HU2.out HG2.out)
      have hcy : ∀ j, j < (krC z).toArray.size → wr.cell? ⟨bb, off + k * 33 + j, none⟩ = (krC z).toArray[j]? := fun j hj => by
        rw [List.size_toArray, krC_len z ZL.out.1] at hj
        refine (hc1 j hj).trans ?_
        rw [List.getElem?_toArray]
        show (krC (padR z))[j]? = _
        rw [padR_id ZL.out.1]
      have hi := i33m z ZL.out.1
      have hz0 := z33m
      have h1c := krC_one z
      have hs0 : (krC kr0).toArray.size = (krC z).toArray.size := by rw [List.size_toArray, List.size_toArray, krC_len z ZL.out.1, krC_len kr0 (by rfl)]
      obtain ⟨wf, hwf, hwi⟩ := HM2.out.cell
      have HWI := hidm_ hwi
      have hwfg : Hid (g < wr.heap.size) := hidm_ (by obtain ⟨_, _, ho, _⟩ := HM2.out; exact ho.inw)
      obtain ⟨gq, hgq⟩ : ∃ x, wr.heap.size = x := ⟨_, rfl⟩
      have HGQ := hidm_ hgq
      have HWF := hidm_ hwf
      clear hc hc1 hz hwi hwf
      go_upto_region 4 with (first
        | (refine wpList_load_sub rfl 41 (.tmp 16) rfl bb (off + k * 33) rfl (krC z).toArray hcy _ Tryd.underlying41 rfl hi ?_)
        | (refine wpList_put_row rfl 41 (.tmp 7) (.tmp 17) rfl gq (krC z).toArray rfl rfl 41 (krC kr0).toArray (by rw [← HGQ.out]; exact Bk.new wr _ _) hi hs0 h1c ?_; intro wq kq gq9 sq9; have KQ := hidm_ kq; have BQ := hidm_ (show Below wr.heap.size wr wq from ((Below.refl wr.heap.size wr).alloc (Nat.le_refl _) _).grown gq9 (by simp) (fun j hj => by injection hj with hj; rw [HGQ.out]; omega)); clear kq gq9 sq9))
      have HM3 := hidm_ (show MoF wq g (foldP (fun q : KrA => krP q.r) (l.take k) (smP (n : Int) 255 st)) (b + 1 + 1048612 * k) (trim wr F2) by obtain ⟨l0, w0, o0, o1, o2⟩ := HM2.out; exact ⟨l0, w0, o0.trim.below BQ.out, o1, o2⟩)
      have hwf : wq.cell? ⟨g, 3, none⟩ = some (.bool wf) := (BQ.out.cell (p := ⟨g, 3, none⟩) hwfg.out).trans HWF.out
      have HG3 := hidm_ (show Grew w F (trim wr F2) from fun j hj => HG2.out j (mem_trim.1 hj).1)
      have HU3 := hidm_ (HU2.out.trans HG2.out (Untouched.of_below (F := F2) BQ.out))
      have cs := row_m wq g (foldP (fun q : KrA => krP q.r) (l.take k) (smP (n : Int) 255 st)) (b + 1 + 1048612 * k) (trim wr F2) z ZL.out.1 (ZR.out.less BQ.out) HM3.out (by have := ZL.out.2; omega) (by have := ZL.out.2; omega)
      clear hcy hz0 h1c hs0
      cases wf with
      | true =>
        have HST2 := hidm_ (HWI.out.1 rfl)
        clear cs
        go_wp2
        refine bodyPost_ret (results_none rfl _ _ _) rfl ?_
        have hst := HST2.out
        refine ⟨rfl, trim wr F2, ?_, HG3.out, HU3.out⟩
        have hm := HM3.out
        rw [hst] at hm
        rw [HST.out hst]
        exact hm.mono (by omega)
      | false =>
        go_wp2_with (first
          | (refine wpList_load_row rfl 41 (.tmp 7) rfl gq rfl 41 (krC z).toArray (0, 0) _ KQ.out Tryd.underlying41 rfl hi ?_)
          | (go_at_call 23; ((with_reducible refine cs.mono ?_); clear cs; rintro e w3 ⟨rfl, F3, h1, h2, h3⟩; have K1 := hidm_ h1; have K2 := hidm_ h2; have K3 := hidm_ h3; clear h1 h2 h3)))
        go_roundw
        case rel => exact ⟨k + 1, F3, by go_num, by omega, hidm_ (by rw [HS.out]; exact K1.out.mono (by have := ZL.out.2; omega)), hidm_ (HG3.out.trans HU3.out.size K2.out), hidm_ (HU3.out.trans HG3.out K3.out)⟩
        case measure => simp [intOf]; omega
    · have tl : ¬ (k : Int) < (n : Int) := by omega
      have HE := hidm_ (show k = n by omega)
      go_wp2
      refine bodyPost_ret (results_none rfl _ _ _) rfl ?_
      exact ⟨rfl, F2, by have := HM2.out; rw [HE.out, ← HN.out, List.take_length] at this; rw [← HN.out]; exact this, HG2.out, HU2.out⟩
end Go.Proofs.YtegfnlnbhhmkjaaDoor

namespace Go.Proofs.YtegfnlnbhhmkjaaDoor
set_option maxRecDepth 100000
open Go.RowKit
set_option linter.unusedVariables false
set_option linter.unusedSimpArgs false

set_option maxRecDepth 100000 in
set_option maxHeartbeats 2000000 in
theorem done_yes (w : World) (g : Nat) (l : List UInt8) (n b : Nat) (F : List Nat) (h : MoF w g (some l) b F) (hn : l.length = n) (hb : b ≤ 140737488355328) :
    Calls Tryd.prog 29 #[.pointer (some ⟨g, 0, none⟩)] w fun e w' => ∃ A c, e = .returned (.tuple #[.slice A n c, .int .i64 0]) ∧ Own8 w' w.heap.size (.slice A n c) l ∧ Below w.heap.size w w' := by
  obtain ⟨l', wr, hO, hl, hst⟩ := h
  obtain ⟨rfl, rfl⟩ : l' = l ∧ wr = false := by rcases hst with ⟨h, h2⟩ | ⟨h, _⟩; injection h with h; exact ⟨h.symm, h2⟩; cases h
  have cd := done_any w g n l' false false F hO hn (by omega)
  have hlt := hO.inw
  have HC := hidm_ hO.wr_.1
  clear hO hst hn
  go_enter Tryd.func29, Tryd.ntmps29
  go_wp2_with (go_at_call 59; ((with_reducible refine cd.mono ?_); clear cd; rintro e w2 ⟨A, c, rfl, h1, h2⟩; have H1 := hidm_ h1; have H2 := hidm_ h2; have hc2 := (h2.cell (p := ⟨g, 3, none⟩) hlt).trans HC.out; simp only [Bool.false_eq_true, if_false]; clear h1 h2))
  go_ret2
  exact ⟨A, c, rfl, H1.out, H2.out⟩
set_option maxRecDepth 100000 in
set_option maxHeartbeats 2000000 in
theorem done_no (w : World) (g b : Nat) (F : List Nat) (h : MoF w g none b F) (hb : b ≤ 140737488355328) :
    Calls Tryd.prog 29 #[.pointer (some ⟨g, 0, none⟩)] w fun e w' => e = .returned (.tuple #[.slice none 0 0, .int .i64 2]) ∧ Below w.heap.size w w' := by
  obtain ⟨l', wr, hO, hl, hst⟩ := h
  obtain rfl : wr = true := by rcases hst with ⟨h, h2⟩ | ⟨_, h⟩; cases h; exact h
  have cd := done_any w g l'.length l' false true F hO rfl (by omega)
  have hlt := hO.inw
  have HC := hidm_ hO.wr_.1
  obtain ⟨n, hn⟩ : ∃ n, l'.length = n := ⟨_, rfl⟩
  rw [hn] at cd
  clear hO hst hn
  go_enter Tryd.func29, Tryd.ntmps29
  go_wp2_with (go_at_call 59; ((with_reducible refine cd.mono ?_); clear cd; rintro e w2 ⟨A, c, rfl, h1, h2⟩; have H2 := hidm_ h2; have hc2 := (h2.cell (p := ⟨g, 3, none⟩) hlt).trans HC.out; simp only [Bool.false_eq_true, if_false]; clear h1 h2))
  go_ret2
  exact ⟨rfl, H2.out⟩
/-- A message of the program's: its values, and where its slices lie. -/
structure MgA where
  kind : Int
  frm : Int
  ask : Int
  err : Int
  for_ : Int
  level : Int
  row : KrA
  ats : List Int
  aa : Option Addr
  ac : Nat
  digs : List (List UInt8)
  da : Option Addr
  dc : Nat
  rows : List KrA
  ra : Option Addr
  rc : Nat
instance : Inhabited MgA := ⟨⟨0, 0, 0, 0, 0, 0, default, [], none, 0, [], none, 0, [], none, 0⟩⟩
def MgA.v (q : MgA) : MgV := ⟨q.kind, q.frm, q.ask, q.err, q.for_, q.level, q.row.r, q.ats, q.digs, q.rows.map (·.r)⟩
def mgC (q : MgA) : List Value := [.int .i64 q.kind, .int .i64 q.frm, .int .i64 q.ask, .int .i64 q.err, .int .i64 q.for_, .int .i64 q.level] ++ (krC q.row ++ [.slice q.aa q.ats.length q.ac, .slice q.da q.digs.length q.dc, .slice q.ra q.rows.length q.rc])
theorem mgC_len (q : MgA) (h : q.row.r.key.length = 32) : (mgC q).length = 42 := by simp [mgC, krC_len _ h]
theorem mgC_row (q : MgA) (h : q.row.r.key.length = 32) (j : Nat) (hj : j < 33) : (mgC q).toArray[6 + j]? = (krC q.row).toArray[j]? := by
  rw [List.getElem?_toArray, List.getElem?_toArray, mgC, List.getElem?_append_right (by simp), List.getElem?_append_left (by rw [krC_len _ h]; simp; omega)]
  congr 1
  simp
theorem mgC_hi (q : MgA) (h : q.row.r.key.length = 32) (j : Nat) : (mgC q).toArray[39 + j]? = ([.slice q.aa q.ats.length q.ac, .slice q.da q.digs.length q.dc, .slice q.ra q.rows.length q.rc] : List Value)[j]? := by
  rw [List.getElem?_toArray, mgC, List.getElem?_append_right (by simp; omega), List.getElem?_append_right (by rw [krC_len _ h]; simp; omega)]
  congr 1
  rw [krC_len _ h]
  simp
  omega
/-- What is known of it: its memory lies below B. -/
structure MgA.Ok (w : World) (B : Nat) (q : MgA) : Prop where
  row : q.row.Ok w B
  ats : RdG intE w B q.aa q.ats
  ac : q.ats.length ≤ q.ac ∧ q.ac ≤ 9223372036854775807
  digs : RdG digE w B q.da q.digs
  dc : q.digs.length ≤ q.dc ∧ q.dc ≤ 9223372036854775807
  d32 : ∀ d ∈ q.digs, d.length = 32
  rows : RdG krE w B q.ra q.rows
  rc : q.rows.length ≤ q.rc ∧ q.rc ≤ 9223372036854775807
  rok : ∀ r ∈ q.rows, r.Ok w B
theorem MgA.Ok.below {w w' : World} {B : Nat} {q : MgA} (h : q.Ok w B) (hb : Below B w w') : q.Ok w' B := ⟨h.row.below hb, h.ats.below hb, h.ac, h.digs.below hb, h.dc, h.d32, h.rows.below hb, h.rc, fun r hr => (h.rok r hr).below hb⟩
theorem MgA.Ok.more {w : World} {B C : Nat} {q : MgA} (h : q.Ok w B) (hB : B ≤ C) : q.Ok w C := ⟨h.row.more hB, h.ats.more hB, h.ac, h.digs.more hB, h.dc, h.d32, h.rows.more hB, h.rc, fun r hr => (h.rok r hr).more hB⟩
theorem MgA.Ok.k32 {w : World} {B : Nat} {q : MgA} (h : q.Ok w B) : K32 q.v := ⟨h.row.key, h.d32, fun r hr => by
  obtain ⟨x, hx, rfl⟩ := List.mem_map.1 hr
  exact (h.rok x hx).key⟩
/-- What Write has put when a message's kind is told. -/
def hdS (m : MgV) : Option (List UInt8) := nuP m.ask 4611686018427387904 (smP m.frm 8 (smP m.kind 7 (some [])))
def bdS (m : MgV) (st : Option (List UInt8)) : Option (List UInt8) :=
  if m.kind = 1 ∨ m.kind = 4 then krP m.row st
  else if m.kind = 2 then smP m.err 255 st
  else if m.kind = 3 then fxP m.row.key st
  else if m.kind = 5 then krP m.row (smP m.for_ 7 st)
  else if m.kind = 6 then foldP fxP m.digs (smP (m.digs.length : Int) 255 (foldP (fun z => nuP z 255) m.ats (smP (m.ats.length : Int) 255 (smP m.level 4 st))))
  else if m.kind = 7 then foldP (fun r => krP r) m.rows (smP (m.rows.length : Int) 255 (foldP (fun z => nuP z 255) m.ats (smP (m.ats.length : Int) 255 st)))
  else none
theorem foldP_map {α β : Type} (f : β → Option (List UInt8) → Option (List UInt8)) (g : α → β) (l : List α) (st : Option (List UInt8)) : foldP f (l.map g) st = foldP (fun x => f (g x)) l st := by
  unfold foldP
  rw [List.foldl_map]
theorem smP_some {n most : Int} {st : Option (List UInt8)} {r : List UInt8} : smP n most st = some r ↔ ∃ l, st = some l ∧ (0 ≤ n ∧ n ≤ most) ∧ r = l ++ smallL n := by
  cases st with
  | none => simp [smP]
  | some l =>
    show (if 0 ≤ n ∧ n ≤ most then some (l ++ smallL n) else none) = some r ↔ _
    split <;> simp_all [eq_comm] <;> (intros; omega)
theorem nuP_some {n most : Int} {st : Option (List UInt8)} {r : List UInt8} : nuP n most st = some r ↔ ∃ l, st = some l ∧ (0 ≤ n ∧ n ≤ most) ∧ r = l ++ numL n := by
  cases st with
  | none => simp [nuP]
  | some l =>
    show (if 0 ≤ n ∧ n ≤ most then some (l ++ numL n) else none) = some r ↔ _
    split <;> simp_all [eq_comm] <;> (intros; omega)
theorem fxP_some {m : List UInt8} {st : Option (List UInt8)} {r : List UInt8} : fxP m st = some r ↔ ∃ l, st = some l ∧ True ∧ r = l ++ m := by
  cases st with
  | none => simp [fxP]
  | some l =>
    show some (l ++ m) = some r ↔ _
    simp [eq_comm]
theorem krP_some {q : KrV} {st : Option (List UInt8)} {r : List UInt8} : krP q st = some r ↔ ∃ l, st = some l ∧ q.set.length ≤ 1048576 ∧ r = l ++ krB q := by
  cases st with
  | none => simp [krP]
  | some l =>
    show (if q.set.length ≤ 1048576 then some (l ++ krB q) else none) = some r ↔ _
    split <;> simp_all [eq_comm] <;> (intros; omega)
theorem foldP_some {β : Type} {f : β → Option (List UInt8) → Option (List UInt8)} {P : β → Prop} {g : β → List UInt8} (hf : ∀ x st r, f x st = some r ↔ ∃ l, st = some l ∧ P x ∧ r = l ++ g x) :
    ∀ (b : List β) (st : Option (List UInt8)) (r : List UInt8), foldP f b st = some r ↔ ∃ l, st = some l ∧ (∀ x ∈ b, P x) ∧ r = l ++ b.flatMap g
  | [], st, r => by simp [foldP, eq_comm]
  | x :: b, st, r => by
    show foldP f b (f x st) = some r ↔ _
    rw [foldP_some hf b (f x st) r]
    constructor
    · rintro ⟨l, h1, h2, rfl⟩
      obtain ⟨l0, rfl, h3, rfl⟩ := (hf x st l).1 h1
      exact ⟨l0, rfl, fun y hy => by rcases List.mem_cons.1 hy with rfl | hy; exact h3; exact h2 y hy, by simp⟩
    · rintro ⟨l, rfl, h2, rfl⟩
      exact ⟨l ++ g x, (hf x _ _).2 ⟨l, rfl, h2 x (by simp), rfl⟩, fun y hy => h2 y (by simp [hy]), by simp⟩
theorem bdS_some {m : MgV} {st : Option (List UInt8)} {r : List UInt8} : bdS m st = some r ↔ ∃ l, st = some l ∧ BodyOk m ∧ r = l ++ bodyB m := by
  unfold bdS BodyOk bodyB
  split
  · exact krP_some
  · split
    · exact smP_some
    · split
      · exact fxP_some
      · split
        · rw [krP_some]
          simp only [smP_some]
          constructor
          · rintro ⟨l, ⟨l0, rfl, h1, rfl⟩, h2, rfl⟩
            exact ⟨l0, rfl, ⟨h1, h2⟩, by rw [List.append_assoc]⟩
          · rintro ⟨l, rfl, ⟨h1, h2⟩, rfl⟩
            exact ⟨_, ⟨l, rfl, h1, rfl⟩, h2, by rw [List.append_assoc]⟩
        · split
          · rw [foldP_some (f := fxP) (P := fun _ => True) (g := id) (fun x st r => fxP_some)]
            simp only [smP_some, foldP_some (P := fun z : Int => 0 ≤ z ∧ z ≤ 255) (g := numL) (fun x st r => nuP_some)]
            constructor
            · rintro ⟨l, ⟨l0, ⟨l1, ⟨l2, ⟨l3, rfl, h1, rfl⟩, h2, rfl⟩, h3, rfl⟩, h4, rfl⟩, h5, rfl⟩
              exact ⟨l3, rfl, ⟨h1, ⟨by omega, h3⟩, by omega⟩, by unfold cntB; simp only [List.append_assoc]⟩
            · rintro ⟨l, rfl, ⟨h1, ⟨h2, h3⟩, h4⟩, rfl⟩
              exact ⟨_, ⟨_, ⟨_, ⟨_, ⟨l, rfl, h1, rfl⟩, by omega, rfl⟩, h3, rfl⟩, by omega, rfl⟩, fun _ _ => trivial, by unfold cntB; simp only [List.append_assoc]⟩
          · split
            · rw [foldP_some (P := fun r : KrV => r.set.length ≤ 1048576) (g := krB) (fun x st r => krP_some)]
              simp only [smP_some, foldP_some (P := fun z : Int => 0 ≤ z ∧ z ≤ 255) (g := numL) (fun x st r => nuP_some)]
              constructor
              · rintro ⟨l, ⟨l0, ⟨l1, ⟨l2, rfl, h1, rfl⟩, h2, rfl⟩, h3, rfl⟩, h4, rfl⟩
                exact ⟨l2, rfl, ⟨⟨by omega, h2⟩, by omega, h4⟩, by unfold cntB; simp only [List.append_assoc]⟩
              · rintro ⟨l, rfl, ⟨⟨h1, h2⟩, h3, h4⟩, rfl⟩
                exact ⟨_, ⟨_, ⟨_, ⟨l, rfl, by omega, rfl⟩, h2, rfl⟩, by omega, rfl⟩, h4, by unfold cntB; simp only [List.append_assoc]⟩
            · simp
theorem hdS_some {m : MgV} {r : List UInt8} : hdS m = some r ↔ (0 ≤ m.kind ∧ m.kind ≤ 7) ∧ (0 ≤ m.frm ∧ m.frm ≤ 8) ∧ (0 ≤ m.ask ∧ m.ask ≤ 4611686018427387904) ∧ r = smallL m.kind ++ (smallL m.frm ++ numL m.ask) := by
  unfold hdS
  simp only [nuP_some, smP_some]
  constructor
  · rintro ⟨l, ⟨l0, ⟨l1, h0, h1, rfl⟩, h2, rfl⟩, h3, rfl⟩
    injection h0 with h0
    subst h0
    exact ⟨h1, h2, h3, by simp⟩
  · rintro ⟨h1, h2, h3, rfl⟩
    exact ⟨_, ⟨_, ⟨[], rfl, h1, rfl⟩, h2, rfl⟩, h3, by simp⟩
theorem wrS_some {m : MgV} {r : List UInt8} : bdS m (hdS m) = some r ↔ MgOk m ∧ r = mgB m := by
  rw [bdS_some]
  constructor
  · rintro ⟨l, h1, h2, rfl⟩
    obtain ⟨a, b, c, rfl⟩ := hdS_some.1 h1
    refine ⟨⟨⟨?_, a.2⟩, b, c, h2⟩, by unfold mgB; simp only [List.append_assoc]⟩
    rcases (by omega : m.kind = 0 ∨ 1 ≤ m.kind) with e | e
    · exfalso
      unfold BodyOk at h2
      simp [e] at h2
    · exact e
  · rintro ⟨⟨a, b, c, d⟩, rfl⟩
    exact ⟨_, hdS_some.2 ⟨⟨by omega, a.2⟩, b, c, rfl⟩, d, by unfold mgB; simp only [List.append_assoc]⟩
theorem wrS_none {m : MgV} (h : ¬ MgOk m) : bdS m (hdS m) = none := by
  cases e : bdS m (hdS m) with
  | none => rfl
  | some r => exact absurd (wrS_some.1 e).1 h
/-- How far Write has come. -/
def MwS (w2 : World) (g : Nat) (st : Option (List UInt8)) (b : Nat) (W : World) : Prop := ∃ F, MoF W g st b F ∧ Grew w2 [g] F ∧ Untouched [g] w2 W
section
variable {w2 W : World} {g : Nat} {st : Option (List UInt8)} {b : Nat}
theorem MwS.step {F : List Nat} (h : Grew w2 [g] F ∧ Untouched [g] w2 W) {e : Ending} {W' : World} {st' : Option (List UInt8)} {b' : Nat} (hp : MoP W g st' b' F e W') : e = .returned (.tuple #[]) ∧ MwS w2 g st' b' W' := by
  obtain ⟨he, F', h1, h2, h3⟩ := hp
  exact ⟨he, F', h1, h.1.trans h.2.size h2, h.2.trans h.1 h3⟩
theorem mw_small (h : MwS w2 g st b W) (n most : Int) (hm : most ≤ 255) (hb : b + 1 ≤ 140737488355328) : Calls Tryd.prog 21 #[.pointer (some ⟨g, 0, none⟩), .int .i64 n, .int .i64 most] W fun e w' => e = .returned (.tuple #[]) ∧ MwS w2 g (smP n most st) (b + 1) w' := by
  obtain ⟨F, h1, h2⟩ := h
  exact (small_m W g st b F n most h1 hm hb).mono fun e w' hp => MwS.step h2 hp
theorem mw_num (h : MwS w2 g st b W) (n most : Int) (hm : most ≤ 9223372036854775807) (hb : b + 8 ≤ 140737488355328) : Calls Tryd.prog 22 #[.pointer (some ⟨g, 0, none⟩), .int .i64 n, .int .i64 most] W fun e w' => e = .returned (.tuple #[]) ∧ MwS w2 g (nuP n most st) (b + 8) w' := by
  obtain ⟨F, h1, h2⟩ := h
  exact (num_m W g st b F n most h1 hm hb).mono fun e w' hp => MwS.step h2 hp
theorem mw_fixed (h : MwS w2 g st b W) (K : List UInt8) (hK : K.length = 32) (hb : b + 32 ≤ 140737488355328) : Calls Tryd.prog 24 #[.pointer (some ⟨g, 0, none⟩), .agg (rowOf K)] W fun e w' => e = .returned (.tuple #[]) ∧ MwS w2 g (fxP K st) (b + 32) w' := by
  obtain ⟨F, h1, h2⟩ := h
  exact (fixed_m W g st b F K hK h1 hb).mono fun e w' hp => MwS.step h2 hp
theorem mw_row (h : MwS w2 g st b W) (q : KrA) (hK : q.r.key.length = 32) (hr : RdF w2 [g] q.sa q.r.set) (hs : q.r.set.length ≤ 1000000000) (hb : b + 36 + q.r.set.length ≤ 140737488355328) : Calls Tryd.prog 23 #[.pointer (some ⟨g, 0, none⟩), .agg (krC q).toArray] W fun e w' => e = .returned (.tuple #[]) ∧ MwS w2 g (krP q.r st) (b + 36 + q.r.set.length) w' := by
  obtain ⟨F, h1, h2⟩ := h
  exact (row_m W g st b F q hK (hr.keep h2.2 h2.1) h1 hs hb).mono fun e w' hp => MwS.step h2 hp
theorem mw_ats (h : MwS w2 g st b W) (A : Option Addr) (n c : Nat) (l : List Int) (hn : l.length = n) (hr : RdGF intE w2 [g] A l) (hl : n ≤ 100000) (hb : b ≤ 1000000000) : Calls Tryd.prog 25 #[.pointer (some ⟨g, 0, none⟩), .slice A n c, .func (.func 26) #[.pointer (some ⟨g, 0, none⟩)] #[]] W fun e w' => e = .returned (.tuple #[]) ∧ MwS w2 g (foldP (fun z => nuP z 255) l (smP (n : Int) 255 st)) (b + 1 + 8 * n) w' := by
  obtain ⟨F, h1, h2⟩ := h
  exact (puts_at W g st b F A n c l hn (hr.keep h2.2 h2.1) h1 hl hb).mono fun e w' hp => MwS.step h2 hp
theorem mw_digs (h : MwS w2 g st b W) (A : Option Addr) (n c : Nat) (l : List (List UInt8)) (hn : l.length = n) (hr : RdGF digE w2 [g] A l) (h32 : ∀ x ∈ l, x.length = 32) (hl : n ≤ 100000) (hb : b ≤ 1000000000) : Calls Tryd.prog 27 #[.pointer (some ⟨g, 0, none⟩), .slice A n c, .func (.func 24) #[.pointer (some ⟨g, 0, none⟩)] #[]] W fun e w' => e = .returned (.tuple #[]) ∧ MwS w2 g (foldP fxP l (smP (n : Int) 255 st)) (b + 1 + 32 * n) w' := by
  obtain ⟨F, h1, h2⟩ := h
  exact (puts_dig W g st b F A n c l hn (hr.keep h2.2 h2.1) h32 h1 hl hb).mono fun e w' hp => MwS.step h2 hp
theorem mw_rows (h : MwS w2 g st b W) (A : Option Addr) (n c : Nat) (l : List KrA) (hn : l.length = n) (hr : RdGF krE w2 [g] A l) (h32 : ∀ q ∈ l, q.r.key.length = 32 ∧ RdF w2 [g] q.sa q.r.set ∧ q.r.set.length ≤ 1048576) (hl : n ≤ 100000) (hb : b ≤ 1000000000) : Calls Tryd.prog 28 #[.pointer (some ⟨g, 0, none⟩), .slice A n c, .func (.func 23) #[.pointer (some ⟨g, 0, none⟩)] #[]] W fun e w' => e = .returned (.tuple #[]) ∧ MwS w2 g (foldP (fun q : KrA => krP q.r) l (smP (n : Int) 255 st)) (b + 1 + 1048612 * n) w' := by
  obtain ⟨F, h1, h2⟩ := h
  exact (puts_row W g st b F A n c l hn (hr.keep h2.2 h2.1) (fun q hq => ⟨(h32 q hq).1, (h32 q hq).2.1.keep h2.2 h2.1, (h32 q hq).2.2⟩) h1 hl hb).mono fun e w' hp => MwS.step h2 hp
end
end Go.Proofs.YtegfnlnbhhmkjaaDoor
