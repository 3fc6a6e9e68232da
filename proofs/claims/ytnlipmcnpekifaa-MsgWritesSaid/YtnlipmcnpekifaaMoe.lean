/-
  What puts a message's parts: lists.
-/
import Derived.Test.YtnlipmcnpekifaaMod
import Derived.Test.YtnlipmcnpekifaaGrp
namespace Go.Proofs.Ytnlipmcnpekifaa
set_option maxRecDepth 100000
open Go.RowKit
set_option linter.unusedVariables false
set_option linter.unusedSimpArgs false

/-- Thirty-two bytes, whatever l is. -/
def pad32 (l : List UInt8) : List UInt8 := (l ++ zbytes 32).take 32
theorem pad32_len (l : List UInt8) : (pad32 l).length = 32 := by unfold pad32; rw [List.length_take, List.length_append, zbytes_len]; omega
theorem pad32_id {l : List UInt8} (h : l.length = 32) : pad32 l = l := by unfold pad32; rw [← h, List.take_left]
theorem pad32_nil : pad32 [] = zbytes 32 := rfl
theorem row_one (l : List UInt8) : ∀ u ∈ (rowOf l).toList, u.oneCell' = true := one_of_row l
def digE : Enc (List UInt8) := ⟨32, by decide, fun l => (rowOf (pad32 l)).toList, fun l => by simp [rowOf, pad32_len], fun x => one_of_row _⟩
def padR (q : KrA) : KrA := ⟨⟨pad32 q.r.key, q.r.set⟩, q.sa, q.sc⟩
theorem padR_id {q : KrA} (h : q.r.key.length = 32) : padR q = q := by
  obtain ⟨⟨k, s⟩, a, c⟩ := q
  unfold padR
  simp only at h ⊢
  rw [pad32_id h]
def krE : Enc KrA := ⟨33, by decide, fun q => krC (padR q), fun q => krC_len _ (pad32_len _), fun q u h => by
  rcases List.mem_append.1 h with h | h
  · exact one_of_row _ u h
  · rw [List.mem_singleton.1 h]; rfl⟩
theorem i32m (l : List UInt8) (h : l.length = 32) : (Try.prog.info? 34).map (·.size) = some (rowOf l).size := by rw [rowOf_size, h]; kernel_rfl
theorem i33m (q : KrA) (h : q.r.key.length = 32) : (Try.prog.info? 37).map (·.size) = some (krC q).toArray.size := by rw [List.size_toArray, krC_len q h]; kernel_rfl
theorem z32m (W : World) : (zeroValue 34).run Try.prog W = .ok (.agg (rowOf (zbytes 32))) W := by kernel_rfl
def kr0 : KrA := ⟨⟨zbytes 32, []⟩, none, 0⟩
theorem z33m (W : World) : (zeroValue 37).run Try.prog W = .ok (.agg (krC kr0).toArray) W := by kernel_rfl
theorem krC_one (q : KrA) : (krC q).toArray.all (·.oneCell') = true := by
  rw [Array.all_eq_true_iff_forall_mem]
  intro v hv
  have hv2 : v ∈ (rowOf q.r.key).toList ++ [Value.slice q.sa q.r.set.length q.sc] := List.mem_toArray.1 hv
  rcases List.mem_append.1 hv2 with h | h
  · exact one_of_row _ v h
  · rw [List.mem_singleton.1 h]; rfl
/-- A row whose memory is none of the blocks F. -/
def RdGF {α : Type} (N : Enc α) (w : World) (F : List Nat) (A : Option Addr) (l : List α) : Prop :=
  0 < l.length → ∃ b off, A = some ⟨b, off, none⟩ ∧ b ∉ F ∧ b < w.heap.size ∧ ∀ j (h : j < l.length) (i : Nat), i < N.k → w.cell? ⟨b, off + j * N.k + i, none⟩ = (N.c l[j])[i]?
theorem RdGF.keep {α : Type} {N : Enc α} {w w' : World} {F F' : List Nat} {A : Option Addr} {l : List α} (h : RdGF N w F A l) (hu : Untouched F w w') (hg : Grew w F F') : RdGF N w' F' A l := fun hn => by
  obtain ⟨b, off, e, hbF, hb, hc⟩ := h hn
  exact ⟨b, off, e, fun hm => by rcases hg b hm with h1 | h1; exact hbF h1; omega, Nat.lt_of_lt_of_le hb hu.size, fun j hj i hi => (World.cell?_of_block (hu.block b hb hbF)).trans (hc j hj i hi)⟩
theorem RdG.rdgf {α : Type} {N : Enc α} {w : World} {B : Nat} {F : List Nat} {A : Option Addr} {l : List α} (h : RdG N w B A l) (hB : B ≤ w.heap.size) (hF : ∀ k ∈ F, B ≤ k) : RdGF N w F A l := fun hn => by
  obtain ⟨b, off, e, hb, hc⟩ := h hn
  exact ⟨b, off, e, fun hm => by have := hF b hm; omega, by omega, hc⟩
/-- All items, one behind the other. -/
def foldP {β : Type} (f : β → Option (List UInt8) → Option (List UInt8)) (l : List β) (st : Option (List UInt8)) : Option (List UInt8) := l.foldl (fun s x => f x s) st
theorem foldP_none {β : Type} {f : β → Option (List UInt8) → Option (List UInt8)} (hf : ∀ x, f x none = none) : ∀ l, foldP f l none = none
  | [] => rfl
  | x :: l => by
    show foldP f l (f x none) = none
    rw [hf]
    exact foldP_none hf l
theorem foldP_stop {β : Type} {f : β → Option (List UInt8) → Option (List UInt8)} (hf : ∀ x, f x none = none) (l : List β) (k : Nat) (st : Option (List UInt8)) (h : foldP f (l.take k) st = none) : foldP f l st = none := by
  have e : l = l.take k ++ l.drop k := (List.take_append_drop k l).symm
  rw [e]
  unfold foldP at h ⊢
  rw [List.foldl_append, h]
  exact foldP_none hf _
theorem foldP_snoc {β : Type} (f : β → Option (List UInt8) → Option (List UInt8)) (l : List β) (k : Nat) (h : k < l.length) (st : Option (List UInt8)) : foldP f (l.take (k + 1)) st = f l[k] (foldP f (l.take k) st) := by
  unfold foldP
  rw [List.take_succ_eq_append_getElem h, List.foldl_append]
  rfl
set_option maxRecDepth 100000 in
set_option maxHeartbeats 4000000 in
theorem puts_at (w : World) (g : Nat) (st : Option (List UInt8)) (b : Nat) (F : List Nat) (A : Option Addr) (n c : Nat) (l : List (Int)) (hn : l.length = n) (hr : RdGF intE w F A l) (h : MoF w g st b F) (hl : n ≤ 100000) (hb : b ≤ 1000000000) :
    Calls Try.prog 20 #[.pointer (some ⟨g, 0, none⟩), .slice A n c, .func (.func 21) #[.pointer (some ⟨g, 0, none⟩)] #[]] w (MoP w g (foldP (fun z => nuP z 255) l (smP (n : Int) 255 st)) (b + 1 + 8 * n) F) := by
  have c0 := small_m w g st b F (n : Int) 255 h (by omega) (by omega)
  have HN := hidm_ hn
  have HR := hidm_ hr
  clear hn hr h
  go_enter Try.func20, Try.ntmps20
  go_wp2_with (go_at_call 16; ((with_reducible refine c0.mono ?_); clear c0; rintro e w1 ⟨rfl, F1, h1, h2, h3⟩; have H1 := hidm_ h1; have H2 := hidm_ h2; have H3 := hidm_ h3; clear h1 h2 h3))
  go_loopw [14] (fun i wr => ∃ (k : Nat) (F2 : List Nat), i = .int .i64 k ∧ k ≤ n ∧ Hid (MoF wr g (foldP (fun z => nuP z 255) (l.take k) (smP (n : Int) 255 st)) (b + 1 + 8 * k) F2) ∧ Hid (Grew w F F2) ∧ Hid (Untouched F w wr)) (fun i _ => n - (intOf i).toNat)
  case atStart => exact ⟨0, F1, rfl, Nat.zero_le _, hidm_ (by rw [Nat.mul_zero, Nat.add_zero]; exact H1.out), H2, H3⟩
  case round =>
    obtain ⟨k, F2, rfl, hk, HM2, HG2, HU2⟩ := hrel
    by_cases hlt : k < n
    · have tl : (k : Int) < (n : Int) := by omega
      obtain ⟨bb, off, rfl, hbF, hbl, hc⟩ := (HR.out.keep HU2.out HG2.out) (by rw [HN.out]; omega)
      have hlk : k < l.length := by rw [HN.out]; exact hlt
      have hc1 := hc k hlk
      have HS := hidm_ (foldP_snoc (fun z => nuP z 255) l k hlk (smP (n : Int) 255 st))
      have HST := hidm_ (fun hh => foldP_stop (f := (fun z => nuP z 255)) (fun _ => rfl) l k (smP (n : Int) 255 st) hh)
      have HZM := hidm_ (List.getElem_mem hlk)
      obtain ⟨z, hz⟩ : ∃ z, l[k] = z := ⟨_, rfl⟩
      rw [hz] at hc1 HS HZM
      have hcz := hc1 0 (by decide)
      have hcy : wr.cell? ⟨bb, off + k, none⟩ = some (.int .i64 z) := by rw [show off + k = off + k * 1 + 0 by omega]; exact hcz
      obtain ⟨wf, hwf, hwi⟩ := HM2.out.cell
      have cs := at_m wr g (foldP (fun z => nuP z 255) (l.take k) (smP (n : Int) 255 st)) (b + 1 + 8 * k) F2 z HM2.out (by omega)
      have HWI := hidm_ hwi
      clear hc hc1 hz hcz hwi
      cases wf with
      | true =>
        have HST2 := hidm_ (HWI.out.1 rfl)
        go_wp2
        refine bodyPost_ret (results_none rfl _ _ _) rfl ?_
        have hst := HST2.out
        refine ⟨rfl, F2, ?_, HG2.out, HU2.out⟩
        have hm := HM2.out
        rw [hst] at hm
        rw [HST.out hst]
        exact hm.mono (by omega)
      | false =>
        go_wp2_with (go_at_call 21; ((with_reducible refine cs.mono ?_); clear cs; rintro e w3 ⟨rfl, F3, h1, h2, h3⟩; have K1 := hidm_ h1; have K2 := hidm_ h2; have K3 := hidm_ h3; clear h1 h2 h3))
        go_roundw
        case rel => exact ⟨k + 1, F3, by go_num, by omega, hidm_ (by rw [HS.out, show b + 1 + 8 * (k + 1) = b + 1 + 8 * k + 8 by omega]; exact K1.out), hidm_ (HG2.out.trans HU2.out.size K2.out), hidm_ (HU2.out.trans HG2.out K3.out)⟩
        case measure => simp [intOf]; omega
    · have tl : ¬ (k : Int) < (n : Int) := by omega
      have HE := hidm_ (show k = n by omega)
      go_wp2
      refine bodyPost_ret (results_none rfl _ _ _) rfl ?_
      exact ⟨rfl, F2, by have := HM2.out; rw [HE.out, ← HN.out, List.take_length] at this; rw [← HN.out]; exact this, HG2.out, HU2.out⟩
set_option maxRecDepth 100000 in
set_option maxHeartbeats 4000000 in
theorem puts_dig (w : World) (g : Nat) (st : Option (List UInt8)) (b : Nat) (F : List Nat) (A : Option Addr) (n c : Nat) (l : List (List UInt8)) (hn : l.length = n) (hr : RdGF digE w F A l) (h32 : ∀ x ∈ l, x.length = 32) (h : MoF w g st b F) (hl : n ≤ 100000) (hb : b ≤ 1000000000) :
    Calls Try.prog 22 #[.pointer (some ⟨g, 0, none⟩), .slice A n c, .func (.func 19) #[.pointer (some ⟨g, 0, none⟩)] #[]] w (MoP w g (foldP fxP l (smP (n : Int) 255 st)) (b + 1 + 32 * n) F) := by
  have c0 := small_m w g st b F (n : Int) 255 h (by omega) (by omega)
  have HN := hidm_ hn
  have HR := hidm_ hr
  have H32 := hidm_ h32
  clear h32
  clear hn hr h
  go_enter Try.func22, Try.ntmps22
  go_wp2_with (go_at_call 16; ((with_reducible refine c0.mono ?_); clear c0; rintro e w1 ⟨rfl, F1, h1, h2, h3⟩; have H1 := hidm_ h1; have H2 := hidm_ h2; have H3 := hidm_ h3; clear h1 h2 h3))
  go_loopw [14] (fun i wr => ∃ (k : Nat) (F2 : List Nat), i = .int .i64 k ∧ k ≤ n ∧ Hid (MoF wr g (foldP fxP (l.take k) (smP (n : Int) 255 st)) (b + 1 + 32 * k) F2) ∧ Hid (Grew w F F2) ∧ Hid (Untouched F w wr)) (fun i _ => n - (intOf i).toNat)
  case atStart => exact ⟨0, F1, rfl, Nat.zero_le _, hidm_ (by rw [Nat.mul_zero, Nat.add_zero]; exact H1.out), H2, H3⟩
  case round =>
    obtain ⟨k, F2, rfl, hk, HM2, HG2, HU2⟩ := hrel
    by_cases hlt : k < n
    · have tl : (k : Int) < (n : Int) := by omega
      obtain ⟨bb, off, rfl, hbF, hbl, hc⟩ := (HR.out.keep HU2.out HG2.out) (by rw [HN.out]; omega)
      have hlk : k < l.length := by rw [HN.out]; exact hlt
      have hc1 := hc k hlk
      have HS := hidm_ (foldP_snoc fxP l k hlk (smP (n : Int) 255 st))
      have HST := hidm_ (fun hh => foldP_stop (f := fxP) (fun _ => rfl) l k (smP (n : Int) 255 st) hh)
      have HZM := hidm_ (List.getElem_mem hlk)
      obtain ⟨z, hz⟩ : ∃ z, l[k] = z := ⟨_, rfl⟩
      rw [hz] at hc1 HS HZM
      have ZL := hidm_ (H32.out z HZM.out)
      have hcy : ∀ j, j < (rowOf z).size → wr.cell? ⟨bb, off + k * 32 + j, none⟩ = (rowOf z)[j]? := fun j hj => by
        rw [rowOf_size, ZL.out] at hj
        refine (hc1 j hj).trans ?_
        show (rowOf (pad32 z)).toList[j]? = _
        rw [pad32_id ZL.out, Array.getElem?_toList]
      have hi := i32m z ZL.out
      have hz0 := z32m
      have h1c := bytes_one z
      have hs0 : (rowOf (zbytes 32)).size = (rowOf z).size := by rw [rowOf_size, rowOf_size, zbytes_len, ZL.out]
      obtain ⟨wf, hwf, hwi⟩ := HM2.out.cell
      have HWI := hidm_ hwi
      have hwfg : Hid (g < wr.heap.size) := hidm_ (by obtain ⟨_, _, ho, _⟩ := HM2.out; exact ho.inw)
      obtain ⟨gq, hgq⟩ : ∃ x, wr.heap.size = x := ⟨_, rfl⟩
      have HGQ := hidm_ hgq
      have HWF := hidm_ hwf
      clear hc hc1 hz hwi hwf
      go_upto_region 4 with (first
        | (refine wpList_load_sub rfl 34 (.tmp 16) rfl bb (off + k * 32) rfl (rowOf z) hcy _ Try.underlying34 rfl hi ?_)
        | (refine wpList_put_row rfl 34 (.tmp 7) (.tmp 17) rfl gq (rowOf z) rfl rfl 34 (rowOf (zbytes 32)) (by rw [← HGQ.out]; exact Bk.new wr _ _) hi hs0 h1c ?_; intro wq kq gq9 sq9; have KQ := hidm_ kq; have BQ := hidm_ (show Below wr.heap.size wr wq from ((Below.refl wr.heap.size wr).alloc (Nat.le_refl _) _).grown gq9 (by simp) (fun j hj => by injection hj with hj; rw [HGQ.out]; omega)); clear kq gq9 sq9))
      have HM3 := hidm_ (show MoF wq g (foldP fxP (l.take k) (smP (n : Int) 255 st)) (b + 1 + 32 * k) (trim wr F2) by obtain ⟨l0, w0, o0, o1, o2⟩ := HM2.out; exact ⟨l0, w0, o0.trim.below BQ.out, o1, o2⟩)
      have hwf : wq.cell? ⟨g, 3, none⟩ = some (.bool wf) := (BQ.out.cell (p := ⟨g, 3, none⟩) hwfg.out).trans HWF.out
      have HG3 := hidm_ (show Grew w F (trim wr F2) from fun j hj => HG2.out j (mem_trim.1 hj).1)
      have HU3 := hidm_ (HU2.out.trans HG2.out (Untouched.of_below (F := F2) BQ.out))
      have cs := fixed_m wq g (foldP fxP (l.take k) (smP (n : Int) 255 st)) (b + 1 + 32 * k) (trim wr F2) z ZL.out HM3.out (by omega)
      clear hcy hz0 h1c hs0
      cases wf with
      | true =>
        have HST2 := hidm_ (HWI.out.1 rfl)
        clear cs
        go_wp2
        refine bodyPost_ret (results_none rfl _ _ _) rfl ?_
        have hst := HST2.out
        refine ⟨rfl, trim wr F2, ?_, HG3.out, HU3.out⟩
        have hm := HM3.out
        rw [hst] at hm
        rw [HST.out hst]
        exact hm.mono (by omega)
      | false =>
        go_wp2_with (first
          | (refine wpList_load_row rfl 34 (.tmp 7) rfl gq rfl 34 (rowOf z) (0, 0) _ KQ.out Try.underlying34 rfl hi ?_)
          | (go_at_call 19; ((with_reducible refine cs.mono ?_); clear cs; rintro e w3 ⟨rfl, F3, h1, h2, h3⟩; have K1 := hidm_ h1; have K2 := hidm_ h2; have K3 := hidm_ h3; clear h1 h2 h3)))
        go_roundw
        case rel => exact ⟨k + 1, F3, by go_num, by omega, hidm_ (by rw [HS.out]; exact K1.out.mono (by omega)), hidm_ (HG3.out.trans HU3.out.size K2.out), hidm_ (HU3.out.trans HG3.out K3.out)⟩
        case measure => simp [intOf]; omega
    · have tl : ¬ (k : Int) < (n : Int) := by omega
      have HE := hidm_ (show k = n by omega)
      go_wp2
      refine bodyPost_ret (results_none rfl _ _ _) rfl ?_
      exact ⟨rfl, F2, by have := HM2.out; rw [HE.out, ← HN.out, List.take_length] at this; rw [← HN.out]; exact this, HG2.out, HU2.out⟩
set_option maxRecDepth 100000 in
set_option maxHeartbeats 4000000 in
theorem puts_row (w : World) (g : Nat) (st : Option (List UInt8)) (b : Nat) (F : List Nat) (A : Option Addr) (n c : Nat) (l : List (KrA)) (hn : l.length = n) (hr : RdGF krE w F A l) (h32 : ∀ q ∈ l, q.r.key.length = 32 ∧ RdF w F q.sa q.r.set ∧ q.r.set.length ≤ 1048576) (h : MoF w g st b F) (hl : n ≤ 100000) (hb : b ≤ 1000000000) :
    Calls Try.prog 23 #[.pointer (some ⟨g, 0, none⟩), .slice A n c, .func (.func 18) #[.pointer (some ⟨g, 0, none⟩)] #[]] w (MoP w g (foldP (fun q : KrA => krP q.r) l (smP (n : Int) 255 st)) (b + 1 + 1048612 * n) F) := by
  have c0 := small_m w g st b F (n : Int) 255 h (by omega) (by omega)
  have HN := hidm_ hn
  have HR := hidm_ hr
  have H32 := hidm_ h32
  clear h32
  clear hn hr h
  go_enter Try.func23, Try.ntmps23
  go_wp2_with (go_at_call 16; ((with_reducible refine c0.mono ?_); clear c0; rintro e w1 ⟨rfl, F1, h1, h2, h3⟩; have H1 := hidm_ h1; have H2 := hidm_ h2; have H3 := hidm_ h3; clear h1 h2 h3))
  go_loopw [14] (fun i wr => ∃ (k : Nat) (F2 : List Nat), i = .int .i64 k ∧ k ≤ n ∧ Hid (MoF wr g (foldP (fun q : KrA => krP q.r) (l.take k) (smP (n : Int) 255 st)) (b + 1 + 1048612 * k) F2) ∧ Hid (Grew w F F2) ∧ Hid (Untouched F w wr)) (fun i _ => n - (intOf i).toNat)
  case atStart => exact ⟨0, F1, rfl, Nat.zero_le _, hidm_ (by rw [Nat.mul_zero, Nat.add_zero]; exact H1.out), H2, H3⟩
  case round =>
    obtain ⟨k, F2, rfl, hk, HM2, HG2, HU2⟩ := hrel
    by_cases hlt : k < n
    · have tl : (k : Int) < (n : Int) := by omega
      obtain ⟨bb, off, rfl, hbF, hbl, hc⟩ := (HR.out.keep HU2.out HG2.out) (by rw [HN.out]; omega)
      have hlk : k < l.length := by rw [HN.out]; exact hlt
      have hc1 := hc k hlk
      have HS := hidm_ (foldP_snoc (fun q : KrA => krP q.r) l k hlk (smP (n : Int) 255 st))
      have HST := hidm_ (fun hh => foldP_stop (f := (fun q : KrA => krP q.r)) (fun _ => rfl) l k (smP (n : Int) 255 st) hh)
      have HZM := hidm_ (List.getElem_mem hlk)
      obtain ⟨z, hz⟩ : ∃ z, l[k] = z := ⟨_, rfl⟩
      rw [hz] at hc1 HS HZM
      have ZL := hidm_ (show z.r.key.length = 32 ∧ z.r.set.length ≤ 1048576 from ⟨(H32.out z HZM.out).1, (H32.out z HZM.out).2.2⟩)
      have ZR := hidm_ ((H32.out z HZM.out).2.1.keep HU2.out HG2.out)
      have hcy : ∀ j, j < (krC z).toArray.size → wr.cell? ⟨bb, off + k * 33 + j, none⟩ = (krC z).toArray[j]? := fun j hj => by
        rw [List.size_toArray, krC_len z ZL.out.1] at hj
        refine (hc1 j hj).trans ?_
        rw [List.getElem?_toArray]
        show (krC (padR z))[j]? = _
        rw [padR_id ZL.out.1]
      have hi := i33m z ZL.out.1
      have hz0 := z33m
      have h1c := krC_one z
      have hs0 : (krC kr0).toArray.size = (krC z).toArray.size := by rw [List.size_toArray, List.size_toArray, krC_len z ZL.out.1, krC_len kr0 (by rfl)]
      obtain ⟨wf, hwf, hwi⟩ := HM2.out.cell
      have HWI := hidm_ hwi
      have hwfg : Hid (g < wr.heap.size) := hidm_ (by obtain ⟨_, _, ho, _⟩ := HM2.out; exact ho.inw)
      obtain ⟨gq, hgq⟩ : ∃ x, wr.heap.size = x := ⟨_, rfl⟩
      have HGQ := hidm_ hgq
      have HWF := hidm_ hwf
      clear hc hc1 hz hwi hwf
      go_upto_region 4 with (first
        | (refine wpList_load_sub rfl 37 (.tmp 16) rfl bb (off + k * 33) rfl (krC z).toArray hcy _ Try.underlying37 rfl hi ?_)
        | (refine wpList_put_row rfl 37 (.tmp 7) (.tmp 17) rfl gq (krC z).toArray rfl rfl 37 (krC kr0).toArray (by rw [← HGQ.out]; exact Bk.new wr _ _) hi hs0 h1c ?_; intro wq kq gq9 sq9; have KQ := hidm_ kq; have BQ := hidm_ (show Below wr.heap.size wr wq from ((Below.refl wr.heap.size wr).alloc (Nat.le_refl _) _).grown gq9 (by simp) (fun j hj => by injection hj with hj; rw [HGQ.out]; omega)); clear kq gq9 sq9))
      have HM3 := hidm_ (show MoF wq g (foldP (fun q : KrA => krP q.r) (l.take k) (smP (n : Int) 255 st)) (b + 1 + 1048612 * k) (trim wr F2) by obtain ⟨l0, w0, o0, o1, o2⟩ := HM2.out; exact ⟨l0, w0, o0.trim.below BQ.out, o1, o2⟩)
      have hwf : wq.cell? ⟨g, 3, none⟩ = some (.bool wf) := (BQ.out.cell (p := ⟨g, 3, none⟩) hwfg.out).trans HWF.out
      have HG3 := hidm_ (show Grew w F (trim wr F2) from fun j hj => HG2.out j (mem_trim.1 hj).1)
      have HU3 := hidm_ (HU2.out.trans HG2.out (Untouched.of_below (F := F2) BQ.out))
      have cs := row_m wq g (foldP (fun q : KrA => krP q.r) (l.take k) (smP (n : Int) 255 st)) (b + 1 + 1048612 * k) (trim wr F2) z ZL.out.1 (ZR.out.less BQ.out) HM3.out (by have := ZL.out.2; omega) (by have := ZL.out.2; omega)
      clear hcy hz0 h1c hs0
      cases wf with
      | true =>
        have HST2 := hidm_ (HWI.out.1 rfl)
        clear cs
        go_wp2
        refine bodyPost_ret (results_none rfl _ _ _) rfl ?_
        have hst := HST2.out
        refine ⟨rfl, trim wr F2, ?_, HG3.out, HU3.out⟩
        have hm := HM3.out
        rw [hst] at hm
        rw [HST.out hst]
        exact hm.mono (by omega)
      | false =>
        go_wp2_with (first
          | (refine wpList_load_row rfl 37 (.tmp 7) rfl gq rfl 37 (krC z).toArray (0, 0) _ KQ.out Try.underlying37 rfl hi ?_)
          | (go_at_call 18; ((with_reducible refine cs.mono ?_); clear cs; rintro e w3 ⟨rfl, F3, h1, h2, h3⟩; have K1 := hidm_ h1; have K2 := hidm_ h2; have K3 := hidm_ h3; clear h1 h2 h3)))
        go_roundw
        case rel => exact ⟨k + 1, F3, by go_num, by omega, hidm_ (by rw [HS.out]; exact K1.out.mono (by have := ZL.out.2; omega)), hidm_ (HG3.out.trans HU3.out.size K2.out), hidm_ (HU3.out.trans HG3.out K3.out)⟩
        case measure => simp [intOf]; omega
    · have tl : ¬ (k : Int) < (n : Int) := by omega
      have HE := hidm_ (show k = n by omega)
      go_wp2
      refine bodyPost_ret (results_none rfl _ _ _) rfl ?_
      exact ⟨rfl, F2, by have := HM2.out; rw [HE.out, ← HN.out, List.take_length] at this; rw [← HN.out]; exact this, HG2.out, HU2.out⟩
end Go.Proofs.Ytnlipmcnpekifaa
