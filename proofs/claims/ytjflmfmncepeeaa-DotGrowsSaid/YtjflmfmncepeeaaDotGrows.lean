/-
  Proved: for all slices of dots, and all dots, DotGrows answers true: dots that are added one by one, in whatever order, are all there, and no others: the context is that of the other order. No condition.
-/
import Derived.Test.YtjflmfmncepeeaaJg
import Derived.Test.YtjflmfmncepeeaaJe
import Derived.Test.YtjflmfmncepeeaaJf
import Derived.Laws.Cover3
import Derived.LaidEqlPtr
namespace Go.Proofs.Ytjflmfmncepeeaa.dotGrows
open Go.ChangeShapes Go.WideShapes Go.ChangeAt Go.RowKit
set_option linter.unusedVariables false
set_option linter.unusedSimpArgs false

/-- Those of the first k, taken as f says, that are dots. -/
def valN (l : List DotV) (f : Nat → Nat) : Nat → List DotV
  | 0 => []
  | k + 1 => if isD (l.getD (f k) ⟨0, 0⟩) = true then valN l f k ++ [l.getD (f k) ⟨0, 0⟩] else valN l f k
theorem valN_len (l : List DotV) (f : Nat → Nat) : ∀ k, (valN l f k).length ≤ k
  | 0 => Nat.le_refl _
  | k + 1 => by
    have := valN_len l f k
    rw [valN]
    split
    · rw [List.length_append, List.length_singleton]; omega
    · omega
theorem valN_mem (l : List DotV) (f : Nat → Nat) : ∀ k d, d ∈ valN l f k ↔ isD d = true ∧ ∃ j, j < k ∧ l.getD (f j) ⟨0, 0⟩ = d
  | 0, d => ⟨fun h => (by cases h), fun ⟨_, j, h, _⟩ => (by omega)⟩
  | k + 1, d => by
    have ih := valN_mem l f k d
    rw [valN]
    split
    · rename_i hq
      rw [List.mem_append, ih, List.mem_singleton]
      constructor
      · rintro (⟨h1, j, h2, h3⟩ | h)
        · exact ⟨h1, j, by omega, h3⟩
        · subst h; exact ⟨hq, k, by omega, rfl⟩
      · rintro ⟨h1, j, h2, h3⟩
        rcases Nat.lt_or_ge j k with h | h
        · exact .inl ⟨h1, j, h, h3⟩
        · obtain rfl : j = k := by omega
          exact .inr h3.symm
    · rename_i hq
      rw [ih]
      constructor
      · rintro ⟨h1, j, h2, h3⟩
        exact ⟨h1, j, by omega, h3⟩
      · rintro ⟨h1, j, h2, h3⟩
        rcases Nat.lt_or_ge j k with h | h
        · exact ⟨h1, j, h, h3⟩
        · obtain rfl : j = k := by omega
          rw [h3] at hq; exact absurd h1 hq
theorem zup_none {S : List DotV} {d : DotV} (hd : isD d = true) : inS [0, 0, 0, 0, 0, 0, 0, 0, 0, 0, 0, 0, 0, 0, 0, 0] S d ↔ d ∈ S := by
  have h := isD_iff.1 hd
  have hz : ([0, 0, 0, 0, 0, 0, 0, 0, 0, 0, 0, 0, 0, 0, 0, 0] : List Int).getD (d.c - 1).toNat 0 = 0 := by
    rw [show ([0, 0, 0, 0, 0, 0, 0, 0, 0, 0, 0, 0, 0, 0, 0, 0] : List Int) = List.replicate 16 (0 : Int) from rfl, List.getD_eq_getElem?_getD, List.getElem?_replicate]
    split <;> simp
  unfold inS
  rw [hz]
  exact ⟨fun g => g.elim (fun g => by omega) id, .inr⟩
/-- One more. -/
theorem grow {S u m} (d : DotV) (h : OfX [0, 0, 0, 0, 0, 0, 0, 0, 0, 0, 0, 0, 0, 0, 0, 0] S (u, m)) (hS : S.length ≤ 31) : ∃ u' m' z, AddV u m d u' m' z ∧ u'.length = 16 ∧ ((isD d = true ∧ z = 0 ∧ OfX [0, 0, 0, 0, 0, 0, 0, 0, 0, 0, 0, 0, 0, 0, 0, 0] (S ++ [d]) (u', m')) ∨ (isD d = false ∧ z = 1)) := by
  have hml : m.length ≤ S.length := ofX_len h up16_zero
  have hc : chk u m = 0 := can_chk h.1 (by omega)
  obtain ⟨u', m', z, hv⟩ := addV_ex u h.1.up16.1 m d
  cases hd : isD d with
  | false =>
    rcases hv with ⟨_, rfl, rfl, rfl⟩ | ⟨h2, _⟩
    · exact ⟨_, _, _, .inl ⟨.inr hd, rfl, rfl, rfl⟩, by simp, .inr ⟨rfl, rfl⟩⟩
    · rw [hd] at h2; cases h2.2
  | true =>
    refine ⟨u', m', z, hv, ?_⟩
    rcases hv with ⟨h2, _⟩ | ⟨_, st, ho, h2⟩
    · rcases h2 with h2 | h2
      · exact absurd hc h2
      · rw [hd] at h2; cases h2
    · have ho2 : OfX [0, 0, 0, 0, 0, 0, 0, 0, 0, 0, 0, 0, 0, 0, 0, 0] (S ++ [d]) st := ⟨ho.1, fun x hx => by
        rw [ho.2 x hx]
        have := h.2 x hx
        unfold inS at *
        rw [List.mem_append, List.mem_append, List.mem_singleton, ← or_assoc, ← or_assoc, this]⟩
      have hl := ofX_len ho2 up16_zero
      rw [List.length_append, List.length_singleton] at hl
      rcases h2 with ⟨a, _⟩ | ⟨a, rfl, rfl, rfl⟩
      · omega
      · exact ⟨ho.1.up16.1, .inl ⟨rfl, rfl, ho2⟩⟩
/-- A variable that holds the context of some dots; its own slice lies from lo on. -/
def CtxAt (w : World) (lo g : Nat) (S : List DotV) : Prop :=
  ∃ u A m c, Bk w g 29 (ctxRow u A m.length c) ∧ RdD w w.heap.size A m ∧ (0 < m.length → ∀ b off, A = some ⟨b, off, none⟩ → lo ≤ b) ∧ m.length ≤ c ∧ c ≤ 9223372036854775807 ∧ OfX [0, 0, 0, 0, 0, 0, 0, 0, 0, 0, 0, 0, 0, 0, 0, 0] S (u, m)
theorem CtxAt.below {w w' : World} {lo g : Nat} {S : List DotV} (h : CtxAt w lo g S) (hb : Below w.heap.size w w') : CtxAt w' lo g S := by
  obtain ⟨u, A, m, c, h1, h2, h3⟩ := h
  exact ⟨u, A, m, c, h1.below hb h1.lt, (h2.below hb).more hb.size, h3⟩
theorem CtxAt.grown {w w' : World} {lo g k : Nat} {S : List DotV} (h : CtxAt w lo g S) (hg : w.grownBy w' (some k)) (hk : k < lo) (hne : g ≠ k) : CtxAt w' lo g S := by
  obtain ⟨u, A, m, c, h1, h2, h3, h4⟩ := h
  exact ⟨u, A, m, c, h1.grown hg (fun e => hne (by injection e)), (h2.grownR (Nat.le_refl _) hg fun h b off e => by have := h3 h b off e; omega).more hg.size, h3, h4⟩
theorem CtxAt.mk_ {w w' : World} {lo g : Nat} {S : List DotV} {u : List Int} {A : Option Addr} {m : List DotV} {c : Nat} (h1 : Bk w' g 29 (ctxRow u A m.length c)) (h2 : RdD w w.heap.size A m) (hg : w.grownBy w' (some g)) (hlt : g < lo) (h3 : ∀ y, A = some y → lo ≤ y.block) (h4 : m.length ≤ c ∧ c ≤ 9223372036854775807) (h5 : OfX [0, 0, 0, 0, 0, 0, 0, 0, 0, 0, 0, 0, 0, 0, 0, 0] S (u, m)) : CtxAt w' lo g S :=
  ⟨u, A, m, c, h1, (h2.grownR (Nat.le_refl _) hg fun h b off e => by have := h3 _ e; simp only at this; omega).more hg.size, fun _ b off e => h3 _ e, h4.1, h4.2, h5⟩
/-- Is a dot among the first k? -/
def inB (l : List DotV) (ask : DotV) (k : Nat) : Bool := isD ask && decide (ask ∈ l.take k)
theorem inB_step (l : List DotV) (ask : DotV) (k : Nat) (h : k < l.length) : inB l ask (k + 1) = (inB l ask k || (decide (l.getD k ⟨0, 0⟩ = ask) && isD ask)) := by
  unfold inB
  rw [take_snocD l k h]
  rw [Bool.eq_iff_iff]
  simp only [Bool.and_eq_true, Bool.or_eq_true, decide_eq_true_eq, List.mem_append, List.mem_singleton]
  constructor
  · rintro ⟨h1, h2 | h2⟩
    · exact .inl ⟨h1, h2⟩
    · exact .inr ⟨h2.symm, h1⟩
  · rintro (⟨h1, h2⟩ | ⟨h1, h2⟩)
    · exact ⟨h1, .inl h2⟩
    · exact ⟨h2, .inr h1.symm⟩
theorem has_in {S u m} {ask : DotV} (h : OfX [0, 0, 0, 0, 0, 0, 0, 0, 0, 0, 0, 0, 0, 0, 0, 0] S (u, m)) (hS : S.length ≤ 32) : hasR u m ask = (isD ask && decide (ask ∈ S)) := by
  have hml : m.length ≤ S.length := ofX_len h up16_zero
  cases hd : isD ask with
  | false => rw [hasR_no hd]; rfl
  | true =>
    rw [Bool.eq_iff_iff, hasR_iff (can_chk h.1 (show m.length ≤ 32 by omega)) hd, h.2 ask hd, zup_none hd]
    simp
def GaR (u : List Int) (A : Option Addr) (k c : Nat) (AL : Option Addr) (n cL i : Nat) (b off : Nat) (d : DotV) : Nat → Value → Prop
  | 0, v => v = .agg (ctxRow u A k c)
  | 1, v => v = .slice AL n cL
  | 2, v => v = .int .i64 i
  | 3, v => v = .pointer (some ⟨b, off + i * 2, none⟩)
  | 4, v => v = .agg d.row
  | _, _ => True
def GbR (u : List Int) (A : Option Addr) (k c : Nat) (AL : Option Addr) (n cL i j : Nat) (b off : Nat) (d : DotV) : Nat → Value → Prop
  | 0, v => v = .agg (ctxRow u A k c)
  | 1, v => v = .slice AL n cL
  | 2, v => v = .slice AL n cL
  | 3, v => v = .int .i64 n
  | 4, v => v = .int .i64 ((n : Int) - 1)
  | 5, v => v = .int .i64 i
  | 6, v => v = .int .i64 j
  | 7, v => v = .pointer (some ⟨b, off + j * 2, none⟩)
  | 8, v => v = .agg d.row
  | _, _ => True

set_option maxRecDepth 100000 in
set_option maxHeartbeats 8000000 in
theorem walk (w : World) (AL : Option Addr) (L0 : List DotV) (cL : Nat) (hr : RdD w w.heap.size AL L0) (hlc : L0.length ≤ cL) (hcm : cL ≤ 9223372036854775807) (ask : DotV) :
    Calls Try.prog 7 #[.slice AL L0.length cL, .agg ask.row] w fun e w' => e = .returned (.bool true) ∧ Below w.heap.size w w' := by
  obtain ⟨g, hg⟩ : ∃ g, w.heap.size = g := ⟨_, rfl⟩
  obtain ⟨w0, hw0⟩ : ∃ w0, w.alloc (.cells ask.row 27) = w0 := ⟨_, rfl⟩
  have K0 := show Bk w0 g 27 ask.row by rw [← hw0, ← hg]; exact Bk.new w _ _
  have X0 := show Below g w w0 by rw [← hw0, ← hg]; exact (Below.refl _ _).alloc (Nat.le_refl _) _
  have S0 : w0.heap.size = g + 1 := by rw [← hw0, ← hg]; simp
  have hz := zX_
  obtain ⟨n, hn⟩ : ∃ n, min L0.length 24 = n := ⟨_, rfl⟩
  obtain ⟨l, hl⟩ : ∃ l, L0.take 24 = l := ⟨_, rfl⟩
  have HL := hidd_ (show l.length = n by rw [← hl, List.length_take, ← hn, Nat.min_comm])
  rw [hg] at hr
  have HR0 := hidd_ (show RdD w g AL l by rw [← hl]; exact hr.take 24)
  have hm1 := fun W ts t => run_min2 L0.length 24 n hn.symm W ts t
  rw [show ((24 : Nat) : Int) = 24 from rfl] at hm1
  have hs1 := fun W => sliceD_to AL L0.length cL (n : Int) n rfl (by omega) W
  have hn24 : n ≤ 24 := by omega
  have ID := hidd_ (show (Try.prog.info? 27).map (·.size) = some ask.row.size from iD_)
  have HG := hidd_ hg
  go_enter Try.func7, Try.ntmps7
  go_upto_region 1 with fail
  obtain ⟨w1, hw1⟩ : ∃ x, w0.alloc (.cells (ctxRow [0, 0, 0, 0, 0, 0, 0, 0, 0, 0, 0, 0, 0, 0, 0, 0] none 0 0) 29) = x := ⟨_, rfl⟩
  obtain ⟨w2, hw2⟩ : ∃ x, w1.alloc (.cells (ctxRow [0, 0, 0, 0, 0, 0, 0, 0, 0, 0, 0, 0, 0, 0, 0, 0] none 0 0) 29) = x := ⟨_, rfl⟩
  have b1 : Below w0.heap.size w0 w1 := by rw [← hw1]; exact (Below.refl _ _).alloc (Nat.le_refl _) _
  have b2 : Below w1.heap.size w1 w2 := by rw [← hw2]; exact (Below.refl _ _).alloc (Nat.le_refl _) _
  have S1 : w1.heap.size = g + 2 := by rw [← hw1]; simp [S0]
  have S2 : w2.heap.size = g + 3 := by rw [← hw2]; simp [S1]
  have A1 : Bk w1 (g + 1) 29 (ctxRow [0, 0, 0, 0, 0, 0, 0, 0, 0, 0, 0, 0, 0, 0, 0, 0] none 0 0) := by rw [← S0, ← hw1]; exact Bk.new w0 _ _
  have B2 : Bk w2 (g + 2) 29 (ctxRow [0, 0, 0, 0, 0, 0, 0, 0, 0, 0, 0, 0, 0, 0, 0, 0] none 0 0) := by rw [← S1, ← hw2]; exact Bk.new w1 _ _
  have X2 := hidd_ ((X0.trans (b1.mono (by omega))).trans (b2.mono (by omega)))
  have K2 := hidd_ ((K0.below b1 K0.lt).below b2 (K0.below b1 K0.lt).lt)
  have hzo : OfX [0, 0, 0, 0, 0, 0, 0, 0, 0, 0, 0, 0, 0, 0, 0, 0] [] ([0, 0, 0, 0, 0, 0, 0, 0, 0, 0, 0, 0, 0, 0, 0, 0], []) := ⟨⟨up16_zero, fun d h => (by cases h), fun d h => (by cases h), List.Pairwise.nil⟩, fun d _ => Iff.rfl⟩
  have CA2 := hidd_ (show CtxAt w2 (g + 3) (g + 1) (valN l id 0) from ⟨[0, 0, 0, 0, 0, 0, 0, 0, 0, 0, 0, 0, 0, 0, 0, 0], none, [], 0, A1.below b2 A1.lt, RdD.nil, fun h => (by simp at h), Nat.le_refl _, by omega, hzo⟩)
  have CB2 := hidd_ (show CtxAt w2 (g + 3) (g + 2) (valN l (fun j => n - 1 - j) 0) from ⟨[0, 0, 0, 0, 0, 0, 0, 0, 0, 0, 0, 0, 0, 0, 0, 0], none, [], 0, B2, RdD.nil, fun h => (by simp at h), Nat.le_refl _, by omega, hzo⟩)
  have HS2 := hidd_ S2
  clear K0 X0 b1 b2 A1 B2 hzo hr hlc hcm hl hn
  go_upto_region 5 with fail
  clear hw1 hw2 hw0 S0 S1 S2 hg hm1 hs1
  have hgl2 : g + 3 ≤ w2.heap.size := by have := HS2.out; omega
  clear HS2
  go_loopw [7, 8] (fun ok i wr => ∃ k : Nat, k ≤ n ∧ i = .int .i64 k ∧ ok = .bool true ∧ g + 3 ≤ wr.heap.size ∧ Hid (CtxAt wr (g + 3) (g + 1) (valN l id k)) ∧ Hid (CtxAt wr (g + 3) (g + 2) (valN l (fun j => n - 1 - j) k)) ∧ Hid (Below g w wr) ∧ Hid (Bk wr g 27 ask.row)) (fun _ i _ => n - (intOf i).toNat)
  case atStart => exact ⟨0, by omega, rfl, rfl, hgl2, CA2, CB2, X2, K2⟩
  case round =>
    obtain ⟨k, hk, rfl, rfl, hgl, CA, CB, XR, KR⟩ := hrel
    clear CA2 CB2 X2 K2 hgl2
    by_cases hlt : k < n
    · have RL := hidd_ (HR0.out.below XR.out)
      obtain ⟨b, off, hAL, hbl, hcell⟩ := RL.out (by rw [HL.out]; omega)
      subst hAL
      have hcx := hcell k (by rw [HL.out]; exact hlt)
      have hcy := hcell (n - 1 - k) (by rw [HL.out]; omega)
      obtain ⟨d, hd⟩ : ∃ d, l.getD k ⟨0, 0⟩ = d := ⟨_, rfl⟩
      obtain ⟨d', hd'⟩ : ∃ d, l.getD (n - 1 - k) ⟨0, 0⟩ = d := ⟨_, rfl⟩
      rw [hd] at hcx
      rw [hd'] at hcy
      obtain ⟨j, hj⟩ : ∃ j, n - 1 - k = j := ⟨_, rfl⟩
      rw [hj] at hcy
      have HJ := hidd_ hj
      have HD := hidd_ hd
      have HD' := hidd_ hd'
      have hjn : j < n := by omega
      have hji : (n : Int) - 1 - (k : Int) = (j : Int) := by omega
      obtain ⟨uA, A, mA, cA, ka1, ka2, ka3, ka4, ka5, ka6⟩ := CA.out
      have hlA : mA.length ≤ 31 := by have h1 : mA.length ≤ (valN l id k).length := ofX_len ka6 up16_zero; have h2 := valN_len l id k; omega
      obtain ⟨ua, ma, za, va, ula, sa⟩ := grow d ka6 (by have h2 := valN_len l id k; omega)
      have KA := hidd_ ka1
      have RA := hidd_ ka2
      have LA := hidd_ (And.intro ka3 (And.intro ka4 (And.intro ka5 ka6)))
      have VA := hidd_ va
      have HUL := hidd_ ula
      have SA := hidd_ sa
      have UA := hidd_ (show uA.length = 16 from ka6.1.up16.1)
      have IA := hidd_ (show (Try.prog.info? 29).map (·.size) = some (ctxRow uA A mA.length cA).size by rw [ctxRow_size _ _ _ _ UA.out]; exact iX_)
      have IDd := hidd_ (show (Try.prog.info? 27).map (·.size) = some d.row.size from iD_)
      have IDe := hidd_ (show (Try.prog.info? 27).map (·.size) = some d'.row.size from iD_)
      have CX := hidd_ (row_two hcx.1 hcx.2)
      have CY := hidd_ (row_two hcy.1 hcy.2)
      have CX0 := hidd_ (fun W (h : Below g w W) => (show ∀ t, t < d.row.size → W.cell? ⟨b, off + k * 2 + t, none⟩ = d.row[t]? from fun t ht => by rw [h.cell (p := ⟨b, _, none⟩) hbl, ← XR.out.cell (p := ⟨b, _, none⟩) hbl]; exact row_two hcx.1 hcx.2 t ht))
      have t0 : (0 : Int) ≤ (k : Int) := by omega
      have tn : (k : Int) < (n : Int) := by omega
      have hbw : b < wr.heap.size := by omega
      have HBW := hidd_ hbw
      have HGL := hidd_ hgl
      clear ka1 ka2 ka3 ka4 ka5 ka6 va ula sa hcx hcy hd hd' hcell hj
      go_upto_region 7 with fail
      refine region_byJF [27, 28, 29, 30, 31, 32, 26, 33, 34, 9, 10] (fun W => Below wr.heap.size wr W) (fun _ _ => True) (fun jj v _ => GaR uA A mA.length cA (some ⟨b, off, none⟩) n cL k b off d jj v) (fun L a W => RxJ wr.heap.size ua ma za (L 5) (L 6) (L 7) (L 8) (L 9) (L 10) (L 11) (a.tmps.getD 32 undef) (a.tmps.getD 26 undef) (a.tmps.getD 33 undef) (a.tmps.getD 34 undef) (a.tmps.getD 9 undef) (a.tmps.getD 10 undef) W) (by kernel_rfl) (by kernel_rfl) (by kernel_rfl) (by kernel_rfl) (fun j v w w' hT hr => hr) (fun j v w hlt hj _ => ?_) ((Below.refl _ _).drew) ?_ RxJ.start ?_
      · rcases j with _ | _ | _ | _ | _ | _ | _ | _ | _ | _ | _ | _ | j
        all_goals first
          | (exfalso; simp [dstOf] at hj; done)
          | trivial
      · refine ⟨fun D a W hC hd hsz hf hv hJ hL hW K hK => ?_, fun D a W hC hd hsz hf hv hJ hL hW K hK => ?_, fun D a W hC hd hsz hf hv hJ hL hW K hK => ?_, fun D a W hC hd hsz hf hv hJ hL hW K hK => ?_, fun D a W hC hd hsz hf hv hJ hL hW K hK => ?_, fun D a W hC hd hsz hf hv hJ hL hW K hK => ?_, fun D a W hC hd hsz hf hv hJ hL hW K hK => ?_, fun D a W hC hd hsz hf hv hJ hL hW K hK => ?_, fun D a W hC hd hsz hf hv hJ hL hW K hK => ?_, fun D a W hC hd hsz hf hv hJ hL hW K hK => ?_, fun D a W hC hd hsz hf hv hJ hL hW K hK => ?_, fun D a W hC hd hsz hf hv hJ hL hW K hK => ?_, trivial⟩
        · have HSZ : a.tmps.size = 100 := hsz
          have e1 := eval_of (a := a) (s := 5) (v := .pointer (some ⟨g + 1, 0, none⟩)) (hf 5 (by kernel_rfl))
          have KW := KA.out.below hC KA.out.lt
          refine step_load_sub (wanted_none rfl) 29 _ rfl (g + 1) 0 e1 (ctxRow uA A mA.length cA) (fun j _ => by rw [Nat.zero_add]; exact KW.cell j) _ Try.underlying29 rfl IA.out (hK _ _ hC trivial rfl (by simp only [put_other (show (32:Nat) ≠ 27 by decide), put_other (show (26:Nat) ≠ 27 by decide), put_other (show (33:Nat) ≠ 27 by decide), put_other (show (34:Nat) ≠ 27 by decide), put_other (show (9:Nat) ≠ 27 by decide), put_other (show (10:Nat) ≠ 27 by decide)]; exact hJ))
        · have HSZ : a.tmps.size = 100 := hsz
          have e1 := slot_of (a := a) (s := 0) (v := .slice (some ⟨b, off, none⟩) n cL) (hf 0 (by kernel_rfl))
          refine step_run (wanted_none rfl) (v := .slice (some ⟨b, off, none⟩) n cL) (w' := W) ?_ (hK _ _ hC trivial rfl (by simp only [put_other (show (32:Nat) ≠ 28 by decide), put_other (show (26:Nat) ≠ 28 by decide), put_other (show (33:Nat) ≠ 28 by decide), put_other (show (34:Nat) ≠ 28 by decide), put_other (show (9:Nat) ≠ 28 by decide), put_other (show (10:Nat) ≠ 28 by decide)]; exact hJ))
          clear hsz HSZ
          go_simp
        · have HSZ : a.tmps.size = 100 := hsz
          have e1 := slot_of (a := a) (s := 8) (v := .int .i64 (k : Int)) (hf 8 (by kernel_rfl))
          refine step_run (wanted_none rfl) (v := .int .i64 (k : Int)) (w' := W) ?_ (hK _ _ hC trivial rfl (by simp only [put_other (show (32:Nat) ≠ 29 by decide), put_other (show (26:Nat) ≠ 29 by decide), put_other (show (33:Nat) ≠ 29 by decide), put_other (show (34:Nat) ≠ 29 by decide), put_other (show (9:Nat) ≠ 29 by decide), put_other (show (10:Nat) ≠ 29 by decide)]; exact hJ))
          clear hsz HSZ
          go_simp
        · have HSZ : a.tmps.size = 100 := hsz
          have e1 := slot_of (a := a) (s := 28) (v := .slice (some ⟨b, off, none⟩) n cL) (hv 1 (by kernel_rfl))
          have e2 := slot_of (a := a) (s := 29) (v := .int .i64 (k : Int)) (hv 2 (by kernel_rfl))
          refine step_run (wanted_none rfl) (v := .pointer (some ⟨b, off + k * 2, none⟩)) (w' := W) ?_ (hK _ _ hC trivial rfl (by simp only [put_other (show (32:Nat) ≠ 30 by decide), put_other (show (26:Nat) ≠ 30 by decide), put_other (show (33:Nat) ≠ 30 by decide), put_other (show (34:Nat) ≠ 30 by decide), put_other (show (9:Nat) ≠ 30 by decide), put_other (show (10:Nat) ≠ 30 by decide)]; exact hJ))
          clear hsz HSZ
          go_simp
        · have HSZ : a.tmps.size = 100 := hsz
          have e1 := eval_of (a := a) (s := 30) (v := .pointer (some ⟨b, off + k * 2, none⟩)) (hv 3 (by kernel_rfl))
          refine step_load_sub (wanted_none rfl) 27 _ rfl b (off + k * 2) e1 d.row (fun j hj => by rw [hC.cell (p := ⟨b, _, none⟩) HBW.out]; exact CX.out j hj) _ Try.underlying27 rfl IDd.out (hK _ _ hC trivial rfl (by simp only [put_other (show (32:Nat) ≠ 31 by decide), put_other (show (26:Nat) ≠ 31 by decide), put_other (show (33:Nat) ≠ 31 by decide), put_other (show (34:Nat) ≠ 31 by decide), put_other (show (9:Nat) ≠ 31 by decide), put_other (show (10:Nat) ≠ 31 by decide)]; exact hJ))
        · have HSZ : a.tmps.size = 100 := hsz
          have e1 := slot_of (a := a) (s := 27) (v := .agg (ctxRow uA A mA.length cA)) (hv 0 (by kernel_rfl))
          have e2 := slot_of (a := a) (s := 31) (v := .agg d.row) (hv 4 (by kernel_rfl))
          have hrd : RdD W W.heap.size A mA := (RA.out.below hC).more hC.size
          refine step_callx 26 #[.agg (ctxRow uA A mA.length cA), .agg d.row] (wanted_none rfl) (w' := W) ?_ ((add_v W uA UA.out A mA.length cA mA rfl (by omega) LA.out.2.1 hrd d VA.out).mono ?_)
          · clear hsz HSZ hrd
            go_simp
          · rintro e W' ⟨A2, c2, rfl, h1, h2, h3, h4, h5⟩
            refine ⟨_, rfl, hK _ _ (hC.trans (h5.mono hC.size)) trivial trivial ?_⟩
            simp only [put_other (show (26:Nat) ≠ 32 by decide), put_other (show (33:Nat) ≠ 32 by decide), put_other (show (34:Nat) ≠ 32 by decide), put_other (show (9:Nat) ≠ 32 by decide), put_other (show (10:Nat) ≠ 32 by decide), put_self (show 32 < a.tmps.size by rw [HSZ]; omega)]
            exact hJ.to_x hL h5 hC.size h1 h2 h3 h4
        · have HSZ : a.tmps.size = 100 := hsz
          refine step_run (wanted_none rfl) (v := a.tmps.getD 32 undef) (w' := W) ?_ (hK _ _ hC trivial trivial (by simp only [put_other (show (32:Nat) ≠ 26 by decide), put_other (show (33:Nat) ≠ 26 by decide), put_other (show (34:Nat) ≠ 26 by decide), put_other (show (9:Nat) ≠ 26 by decide), put_other (show (10:Nat) ≠ 26 by decide), put_self (show 26 < a.tmps.size by rw [HSZ]; omega)]; exact hJ.to_mv (hW 5 (by kernel_rfl))))
          clear hsz HSZ
          go_simp
        · have HSZ : a.tmps.size = 100 := hsz
          obtain ⟨A2, c2, q2, X2, k1, k2, k3, k4, k5, k6, k7, k8⟩ := hJ.ex
          have e1 := slot_of (k2 (hW 6 (by kernel_rfl)))
          refine step_run (wanted_none rfl) (v := .agg (ctxRow ua A2 ma.length c2)) (w' := W) ?_ (hK _ _ hC trivial trivial (by simp only [put_other (show (32:Nat) ≠ 33 by decide), put_other (show (26:Nat) ≠ 33 by decide), put_other (show (34:Nat) ≠ 33 by decide), put_other (show (9:Nat) ≠ 33 by decide), put_other (show (10:Nat) ≠ 33 by decide), put_self (show 33 < a.tmps.size by rw [HSZ]; omega)]; exact hJ.to_s0 (hW 6 (by kernel_rfl)) (k2 (hW 6 (by kernel_rfl)))))
          unfold TwoX at e1
          clear hsz HSZ k1 k2 k3 k4 k5 k6 k7 k8
          go_simp
        · have HSZ : a.tmps.size = 100 := hsz
          obtain ⟨A2, c2, q2, X2, k1, k2, k3, k4, k5, k6, k7, k8⟩ := hJ.ex
          have e1 := slot_of (k2 (hW 6 (by kernel_rfl)))
          refine step_run (wanted_none rfl) (v := .int .i64 za) (w' := W) ?_ (hK _ _ hC trivial trivial (by simp only [put_other (show (32:Nat) ≠ 34 by decide), put_other (show (26:Nat) ≠ 34 by decide), put_other (show (33:Nat) ≠ 34 by decide), put_other (show (9:Nat) ≠ 34 by decide), put_other (show (10:Nat) ≠ 34 by decide), put_self (show 34 < a.tmps.size by rw [HSZ]; omega)]; exact hJ.to_s1 (hW 6 (by kernel_rfl))))
          unfold TwoX at e1
          clear hsz HSZ k1 k2 k3 k4 k5 k6 k7 k8
          go_simp
        · have HSZ : a.tmps.size = 100 := hsz
          have hbl : Below W.heap.size W (W.alloc (.cells (ctxRow (List.replicate 16 0) none 0 0) 29)) := (Below.refl _ _).alloc (Nat.le_refl _) _
          have hBW : wr.heap.size ≤ W.heap.size := hC.size
          refine step_run (wanted_none rfl) (v := .pointer (some ⟨W.heap.size, 0, none⟩)) (w' := W.alloc (.cells (ctxRow (List.replicate 16 0) none 0 0) 29)) ?_ (hK _ _ (hC.trans (hbl.mono hBW)) trivial trivial (by simp only [put_other (show (32:Nat) ≠ 9 by decide), put_other (show (26:Nat) ≠ 9 by decide), put_other (show (33:Nat) ≠ 9 by decide), put_other (show (34:Nat) ≠ 9 by decide), put_other (show (10:Nat) ≠ 9 by decide), put_self (show 9 < a.tmps.size by rw [HSZ]; omega)]; exact hJ.to_al hL hBW (ctxRow_size _ _ _ _ (by simp))))
          clear hsz HSZ hbl hBW
          go_simp
        · have HSZ : a.tmps.size = 100 := hsz
          obtain ⟨A2, c2, q2, X2, k1, k2, k3, k4, k5, k6, k7, k8⟩ := hJ.ex
          obtain ⟨m1, m2, m3, m4⟩ := k6 (hW 9 (by kernel_rfl))
          have e1 := eval_of m1
          have e2 := eval_of (k3 (hW 7 (by kernel_rfl)))
          have IV : (Try.prog.info? 29).map (·.size) = some (ctxRow ua A2 ma.length c2).size := by rw [ctxRow_size _ _ _ _ HUL.out]; exact iX_
          refine step_put_row rfl 29 _ _ rfl q2 (ctxRow ua A2 ma.length c2) e1 e2 29 X2 m3 IV (by rw [m4, ctxRow_size _ _ _ _ HUL.out]) (ctxRow_one _ _ _ _) ?_
          intro W' k9 g9 s9
          exact hK _ _ (hC.grown g9 hC.size (fun k hk => by injection hk with hk; omega)) trivial trivial (by simp only [put_none]; exact hJ.to_st (hW 7 (by kernel_rfl)) (hW 9 (by kernel_rfl)) m1 (k3 (hW 7 (by kernel_rfl))) (ctxRow_size _ _ _ _ HUL.out) g9 k9)
        · have HSZ : a.tmps.size = 100 := hsz
          obtain ⟨A2, c2, q2, X2, k1, k2, k3, k4, k5, k6, k7, k8⟩ := hJ.ex
          have e1 := slot_of (k4 (hW 8 (by kernel_rfl)))
          refine step_run (wanted_none rfl) (v := .int .i64 za) (w' := W) ?_ (hK _ _ hC trivial trivial (by simp only [put_other (show (32:Nat) ≠ 10 by decide), put_other (show (26:Nat) ≠ 10 by decide), put_other (show (33:Nat) ≠ 10 by decide), put_other (show (34:Nat) ≠ 10 by decide), put_other (show (9:Nat) ≠ 10 by decide), put_self (show 10 < a.tmps.size by rw [HSZ]; omega)]; exact hJ.to_ae (hW 8 (by kernel_rfl))))
          clear hsz HSZ k1 k2 k3 k4 k5 k6 k7 k8
          go_simp
      · intro f W hC hv L hL hJ'
        obtain ⟨aE, hJ, hfr⟩ := hJ'
        obtain ⟨A2, c2, q2, X2, k1, k2, k3, k4, k5, k6, k7, k8⟩ := hJ.ex
        obtain ⟨j1, j2, j3, j4, j5⟩ := k1 (hL 5 (by decide))
        obtain ⟨m1, m2, m3, m4⟩ := k6 (hL 9 (by decide))
        have m7 := k7 (hL 10 (by decide))
        rw [m7] at m3
        have hfa : f 9 = .pointer (some ⟨q2, 0, none⟩) := by rw [← hfr 9]; exact m1
        have hfe : f 10 = .int .i64 za := by rw [← hfr 10]; exact k5 (hL 11 (by decide))
        simp only [framed, List.foldl_cons, List.foldl_nil, List.setIfInBounds_toArray, List.set_cons_succ, List.set_cons_zero, hfa, hfe]
        clear j1 hv hJ hfr hL k1 k2 k3 k4 k5 k6 k7 k8 m1 m4 m7 hfa hfe
        rename_i K hK
        refine hK _ _ ?_
        obtain ⟨wa, hwa⟩ : ∃ x, x = W := ⟨_, rfl⟩
        subst hwa
        have HCA := hidd_ hC
        have RA3 := hidd_ j2
        have NA := hidd_ j3
        have LA2 := hidd_ (And.intro j4 j5)
        have QA3 := hidd_ m3
        have HQA := hidd_ m2
        have IVA := hidd_ (show (Try.prog.info? 29).map (·.size) = some (ctxRow ua A2 ma.length c2).size by rw [ctxRow_size _ _ _ _ HUL.out]; exact iX_)
        have CB2 := hidd_ (CB.out.below hC)
        obtain ⟨uB, B, mB, cB, kb1, kb2, kb3, kb4, kb5, kb6⟩ := CB2.out
        have hlB : mB.length ≤ 31 := by have h1 : mB.length ≤ (valN l (fun j => n - 1 - j) k).length := ofX_len kb6 up16_zero; have h2 := valN_len l (fun j => n - 1 - j) k; omega
        obtain ⟨ub, mb, zb, vb, ulb, sb⟩ := grow d' kb6 (by have h2 := valN_len l (fun j => n - 1 - j) k; omega)
        have KB := hidd_ kb1
        have RB := hidd_ kb2
        have LB := hidd_ (And.intro kb3 (And.intro kb4 (And.intro kb5 kb6)))
        have VB := hidd_ vb
        have UUB := hidd_ ulb
        have SB := hidd_ sb
        have UB := hidd_ (show uB.length = 16 from kb6.1.up16.1)
        have IB := hidd_ (show (Try.prog.info? 29).map (·.size) = some (ctxRow uB B mB.length cB).size by rw [ctxRow_size _ _ _ _ UB.out]; exact iX_)
        have HBA := hidd_ (show b < wa.heap.size by have := hC.size; omega)
        have HGL2 := hidd_ (show g + 3 ≤ wa.heap.size by have := hC.size; have := HGL.out; omega)
        have HJI := hidd_ hji
        obtain ⟨AA, hAA⟩ : ∃ x, x = A2 := ⟨_, rfl⟩
        subst hAA
        obtain ⟨cAA, hcAA⟩ : ∃ x, x = c2 := ⟨_, rfl⟩
        subst hcAA
        obtain ⟨qa, hqa⟩ : ∃ x, x = q2 := ⟨_, rfl⟩
        subst hqa
        clear hC j2 j3 j4 j5 m3 m2 kb1 kb2 kb3 kb4 kb5 kb6 vb ulb sb hji
        go_upto_region 8 with fail
        refine region_byJF [36, 37, 38, 39, 40, 41, 42, 43, 44, 45, 35, 46, 47, 11, 12] (fun W => Below wa.heap.size wa W) (fun _ _ => True) (fun jj v _ => GbR uB B mB.length cB (some ⟨b, off, none⟩) n cL k j b off d' jj v) (fun L a W => RxJ wa.heap.size ub mb zb (L 9) (L 10) (L 11) (L 12) (L 13) (L 14) (L 15) (a.tmps.getD 45 undef) (a.tmps.getD 35 undef) (a.tmps.getD 46 undef) (a.tmps.getD 47 undef) (a.tmps.getD 11 undef) (a.tmps.getD 12 undef) W) (by kernel_rfl) (by kernel_rfl) (by kernel_rfl) (by kernel_rfl) (fun j v w w' hT hr => hr) (fun j v w hlt hj _ => ?_) ((Below.refl _ _).drew) ?_ RxJ.start ?_
        · rcases j with _ | _ | _ | _ | _ | _ | _ | _ | _ | _ | _ | _ | _ | _ | _ | _ | j
          all_goals first
            | (exfalso; simp [dstOf] at hj; done)
            | trivial
        · refine ⟨fun D a W hC hd hsz hf hv hJ hL hW K hK => ?_, fun D a W hC hd hsz hf hv hJ hL hW K hK => ?_, fun D a W hC hd hsz hf hv hJ hL hW K hK => ?_, fun D a W hC hd hsz hf hv hJ hL hW K hK => ?_, fun D a W hC hd hsz hf hv hJ hL hW K hK => ?_, fun D a W hC hd hsz hf hv hJ hL hW K hK => ?_, fun D a W hC hd hsz hf hv hJ hL hW K hK => ?_, fun D a W hC hd hsz hf hv hJ hL hW K hK => ?_, fun D a W hC hd hsz hf hv hJ hL hW K hK => ?_, fun D a W hC hd hsz hf hv hJ hL hW K hK => ?_, fun D a W hC hd hsz hf hv hJ hL hW K hK => ?_, fun D a W hC hd hsz hf hv hJ hL hW K hK => ?_, fun D a W hC hd hsz hf hv hJ hL hW K hK => ?_, fun D a W hC hd hsz hf hv hJ hL hW K hK => ?_, fun D a W hC hd hsz hf hv hJ hL hW K hK => ?_, fun D a W hC hd hsz hf hv hJ hL hW K hK => ?_, trivial⟩
          · have HSZ : a.tmps.size = 100 := hsz
            have e1 := eval_of (a := a) (s := 6) (v := .pointer (some ⟨g + 2, 0, none⟩)) (hf 6 (by kernel_rfl))
            have KW := KB.out.below hC KB.out.lt
            refine step_load_sub (wanted_none rfl) 29 _ rfl (g + 2) 0 e1 (ctxRow uB B mB.length cB) (fun j _ => by rw [Nat.zero_add]; exact KW.cell j) _ Try.underlying29 rfl IB.out (hK _ _ hC trivial rfl (by simp only [put_other (show (45:Nat) ≠ 36 by decide), put_other (show (35:Nat) ≠ 36 by decide), put_other (show (46:Nat) ≠ 36 by decide), put_other (show (47:Nat) ≠ 36 by decide), put_other (show (11:Nat) ≠ 36 by decide), put_other (show (12:Nat) ≠ 36 by decide)]; exact hJ))
          · have HSZ : a.tmps.size = 100 := hsz
            have e1 := slot_of (a := a) (s := 0) (v := .slice (some ⟨b, off, none⟩) n cL) (hf 0 (by kernel_rfl))
            refine step_run (wanted_none rfl) (v := .slice (some ⟨b, off, none⟩) n cL) (w' := W) ?_ (hK _ _ hC trivial rfl (by simp only [put_other (show (45:Nat) ≠ 37 by decide), put_other (show (35:Nat) ≠ 37 by decide), put_other (show (46:Nat) ≠ 37 by decide), put_other (show (47:Nat) ≠ 37 by decide), put_other (show (11:Nat) ≠ 37 by decide), put_other (show (12:Nat) ≠ 37 by decide)]; exact hJ))
            clear hsz HSZ
            go_simp
          · have HSZ : a.tmps.size = 100 := hsz
            have e1 := slot_of (a := a) (s := 0) (v := .slice (some ⟨b, off, none⟩) n cL) (hf 0 (by kernel_rfl))
            refine step_run (wanted_none rfl) (v := .slice (some ⟨b, off, none⟩) n cL) (w' := W) ?_ (hK _ _ hC trivial rfl (by simp only [put_other (show (45:Nat) ≠ 38 by decide), put_other (show (35:Nat) ≠ 38 by decide), put_other (show (46:Nat) ≠ 38 by decide), put_other (show (47:Nat) ≠ 38 by decide), put_other (show (11:Nat) ≠ 38 by decide), put_other (show (12:Nat) ≠ 38 by decide)]; exact hJ))
            clear hsz HSZ
            go_simp
          · have HSZ : a.tmps.size = 100 := hsz
            have e1 := slot_of (a := a) (s := 38) (v := .slice (some ⟨b, off, none⟩) n cL) (hv 2 (by kernel_rfl))
            refine step_run (wanted_none rfl) (v := .int .i64 (n : Int)) (w' := W) ?_ (hK _ _ hC trivial rfl (by simp only [put_other (show (45:Nat) ≠ 39 by decide), put_other (show (35:Nat) ≠ 39 by decide), put_other (show (46:Nat) ≠ 39 by decide), put_other (show (47:Nat) ≠ 39 by decide), put_other (show (11:Nat) ≠ 39 by decide), put_other (show (12:Nat) ≠ 39 by decide)]; exact hJ))
            clear hsz HSZ
            go_simp
          · have HSZ : a.tmps.size = 100 := hsz
            have e1 := slot_of (a := a) (s := 39) (v := .int .i64 (n : Int)) (hv 3 (by kernel_rfl))
            have e2 : IntKind.i64.wrap ((n : Int) - 1) = (n : Int) - 1 := IntWalk.i64_in _ (by omega)
            refine step_run (wanted_none rfl) (v := .int .i64 ((n : Int) - 1)) (w' := W) ?_ (hK _ _ hC trivial rfl (by simp only [put_other (show (45:Nat) ≠ 40 by decide), put_other (show (35:Nat) ≠ 40 by decide), put_other (show (46:Nat) ≠ 40 by decide), put_other (show (47:Nat) ≠ 40 by decide), put_other (show (11:Nat) ≠ 40 by decide), put_other (show (12:Nat) ≠ 40 by decide)]; exact hJ))
            clear hsz HSZ
            go_simp
          · have HSZ : a.tmps.size = 100 := hsz
            have e1 := slot_of (a := a) (s := 8) (v := .int .i64 (k : Int)) (hf 8 (by kernel_rfl))
            refine step_run (wanted_none rfl) (v := .int .i64 (k : Int)) (w' := W) ?_ (hK _ _ hC trivial rfl (by simp only [put_other (show (45:Nat) ≠ 41 by decide), put_other (show (35:Nat) ≠ 41 by decide), put_other (show (46:Nat) ≠ 41 by decide), put_other (show (47:Nat) ≠ 41 by decide), put_other (show (11:Nat) ≠ 41 by decide), put_other (show (12:Nat) ≠ 41 by decide)]; exact hJ))
            clear hsz HSZ
            go_simp
          · have HSZ : a.tmps.size = 100 := hsz
            have e1 := slot_of (a := a) (s := 40) (v := .int .i64 ((n : Int) - 1)) (hv 4 (by kernel_rfl))
            have e3 := slot_of (a := a) (s := 41) (v := .int .i64 (k : Int)) (hv 5 (by kernel_rfl))
            have e2 : IntKind.i64.wrap ((n : Int) - 1 - (k : Int)) = (j : Int) := by rw [IntWalk.i64_in _ (by omega)]; exact HJI.out
            refine step_run (wanted_none rfl) (v := .int .i64 (j : Int)) (w' := W) ?_ (hK _ _ hC trivial rfl (by simp only [put_other (show (45:Nat) ≠ 42 by decide), put_other (show (35:Nat) ≠ 42 by decide), put_other (show (46:Nat) ≠ 42 by decide), put_other (show (47:Nat) ≠ 42 by decide), put_other (show (11:Nat) ≠ 42 by decide), put_other (show (12:Nat) ≠ 42 by decide)]; exact hJ))
            clear hsz HSZ
            go_simp
          · have HSZ : a.tmps.size = 100 := hsz
            have e1 := slot_of (a := a) (s := 37) (v := .slice (some ⟨b, off, none⟩) n cL) (hv 1 (by kernel_rfl))
            have e2 := slot_of (a := a) (s := 42) (v := .int .i64 (j : Int)) (hv 6 (by kernel_rfl))
            refine step_run (wanted_none rfl) (v := .pointer (some ⟨b, off + j * 2, none⟩)) (w' := W) ?_ (hK _ _ hC trivial rfl (by simp only [put_other (show (45:Nat) ≠ 43 by decide), put_other (show (35:Nat) ≠ 43 by decide), put_other (show (46:Nat) ≠ 43 by decide), put_other (show (47:Nat) ≠ 43 by decide), put_other (show (11:Nat) ≠ 43 by decide), put_other (show (12:Nat) ≠ 43 by decide)]; exact hJ))
            clear hsz HSZ
            go_simp
          · have HSZ : a.tmps.size = 100 := hsz
            have e1 := eval_of (a := a) (s := 43) (v := .pointer (some ⟨b, off + j * 2, none⟩)) (hv 7 (by kernel_rfl))
            refine step_load_sub (wanted_none rfl) 27 _ rfl b (off + j * 2) e1 d'.row (fun i hi => by rw [hC.cell (p := ⟨b, _, none⟩) HBA.out, HCA.out.cell (p := ⟨b, _, none⟩) HBW.out]; exact CY.out i hi) _ Try.underlying27 rfl IDe.out (hK _ _ hC trivial rfl (by simp only [put_other (show (45:Nat) ≠ 44 by decide), put_other (show (35:Nat) ≠ 44 by decide), put_other (show (46:Nat) ≠ 44 by decide), put_other (show (47:Nat) ≠ 44 by decide), put_other (show (11:Nat) ≠ 44 by decide), put_other (show (12:Nat) ≠ 44 by decide)]; exact hJ))
          · have HSZ : a.tmps.size = 100 := hsz
            have e1 := slot_of (a := a) (s := 36) (v := .agg (ctxRow uB B mB.length cB)) (hv 0 (by kernel_rfl))
            have e2 := slot_of (a := a) (s := 44) (v := .agg d'.row) (hv 8 (by kernel_rfl))
            have hrd : RdD W W.heap.size B mB := (RB.out.below hC).more hC.size
            refine step_callx 26 #[.agg (ctxRow uB B mB.length cB), .agg d'.row] (wanted_none rfl) (w' := W) ?_ ((add_v W uB UB.out B mB.length cB mB rfl (by omega) LB.out.2.1 hrd d' VB.out).mono ?_)
            · clear hsz HSZ hrd
              go_simp
            · rintro e W' ⟨A2, c2, rfl, h1, h2, h3, h4, h5⟩
              refine ⟨_, rfl, hK _ _ (hC.trans (h5.mono hC.size)) trivial trivial ?_⟩
              simp only [put_other (show (35:Nat) ≠ 45 by decide), put_other (show (46:Nat) ≠ 45 by decide), put_other (show (47:Nat) ≠ 45 by decide), put_other (show (11:Nat) ≠ 45 by decide), put_other (show (12:Nat) ≠ 45 by decide), put_self (show 45 < a.tmps.size by rw [HSZ]; omega)]
              exact hJ.to_x hL h5 hC.size h1 h2 h3 h4
          · have HSZ : a.tmps.size = 100 := hsz
            refine step_run (wanted_none rfl) (v := a.tmps.getD 45 undef) (w' := W) ?_ (hK _ _ hC trivial trivial (by simp only [put_other (show (45:Nat) ≠ 35 by decide), put_other (show (46:Nat) ≠ 35 by decide), put_other (show (47:Nat) ≠ 35 by decide), put_other (show (11:Nat) ≠ 35 by decide), put_other (show (12:Nat) ≠ 35 by decide), put_self (show 35 < a.tmps.size by rw [HSZ]; omega)]; exact hJ.to_mv (hW 9 (by kernel_rfl))))
            clear hsz HSZ
            go_simp
          · have HSZ : a.tmps.size = 100 := hsz
            obtain ⟨A2, c2, q2, X2, k1, k2, k3, k4, k5, k6, k7, k8⟩ := hJ.ex
            have e1 := slot_of (k2 (hW 10 (by kernel_rfl)))
            refine step_run (wanted_none rfl) (v := .agg (ctxRow ub A2 mb.length c2)) (w' := W) ?_ (hK _ _ hC trivial trivial (by simp only [put_other (show (45:Nat) ≠ 46 by decide), put_other (show (35:Nat) ≠ 46 by decide), put_other (show (47:Nat) ≠ 46 by decide), put_other (show (11:Nat) ≠ 46 by decide), put_other (show (12:Nat) ≠ 46 by decide), put_self (show 46 < a.tmps.size by rw [HSZ]; omega)]; exact hJ.to_s0 (hW 10 (by kernel_rfl)) (k2 (hW 10 (by kernel_rfl)))))
            unfold TwoX at e1
            clear hsz HSZ k1 k2 k3 k4 k5 k6 k7 k8
            go_simp
          · have HSZ : a.tmps.size = 100 := hsz
            obtain ⟨A2, c2, q2, X2, k1, k2, k3, k4, k5, k6, k7, k8⟩ := hJ.ex
            have e1 := slot_of (k2 (hW 10 (by kernel_rfl)))
            refine step_run (wanted_none rfl) (v := .int .i64 zb) (w' := W) ?_ (hK _ _ hC trivial trivial (by simp only [put_other (show (45:Nat) ≠ 47 by decide), put_other (show (35:Nat) ≠ 47 by decide), put_other (show (46:Nat) ≠ 47 by decide), put_other (show (11:Nat) ≠ 47 by decide), put_other (show (12:Nat) ≠ 47 by decide), put_self (show 47 < a.tmps.size by rw [HSZ]; omega)]; exact hJ.to_s1 (hW 10 (by kernel_rfl))))
            unfold TwoX at e1
            clear hsz HSZ k1 k2 k3 k4 k5 k6 k7 k8
            go_simp
          · have HSZ : a.tmps.size = 100 := hsz
            have hbl : Below W.heap.size W (W.alloc (.cells (ctxRow (List.replicate 16 0) none 0 0) 29)) := (Below.refl _ _).alloc (Nat.le_refl _) _
            have hBW : wa.heap.size ≤ W.heap.size := hC.size
            refine step_run (wanted_none rfl) (v := .pointer (some ⟨W.heap.size, 0, none⟩)) (w' := W.alloc (.cells (ctxRow (List.replicate 16 0) none 0 0) 29)) ?_ (hK _ _ (hC.trans (hbl.mono hBW)) trivial trivial (by simp only [put_other (show (45:Nat) ≠ 11 by decide), put_other (show (35:Nat) ≠ 11 by decide), put_other (show (46:Nat) ≠ 11 by decide), put_other (show (47:Nat) ≠ 11 by decide), put_other (show (12:Nat) ≠ 11 by decide), put_self (show 11 < a.tmps.size by rw [HSZ]; omega)]; exact hJ.to_al hL hBW (ctxRow_size _ _ _ _ (by simp))))
            clear hsz HSZ hbl hBW
            go_simp
          · have HSZ : a.tmps.size = 100 := hsz
            obtain ⟨A2, c2, q2, X2, k1, k2, k3, k4, k5, k6, k7, k8⟩ := hJ.ex
            obtain ⟨m1, m2, m3, m4⟩ := k6 (hW 13 (by kernel_rfl))
            have e1 := eval_of m1
            have e2 := eval_of (k3 (hW 11 (by kernel_rfl)))
            have IV : (Try.prog.info? 29).map (·.size) = some (ctxRow ub A2 mb.length c2).size := by rw [ctxRow_size _ _ _ _ UUB.out]; exact iX_
            refine step_put_row rfl 29 _ _ rfl q2 (ctxRow ub A2 mb.length c2) e1 e2 29 X2 m3 IV (by rw [m4, ctxRow_size _ _ _ _ UUB.out]) (ctxRow_one _ _ _ _) ?_
            intro W' k9 g9 s9
            exact hK _ _ (hC.grown g9 hC.size (fun k hk => by injection hk with hk; omega)) trivial trivial (by simp only [put_none]; exact hJ.to_st (hW 11 (by kernel_rfl)) (hW 13 (by kernel_rfl)) m1 (k3 (hW 11 (by kernel_rfl))) (ctxRow_size _ _ _ _ UUB.out) g9 k9)
          · have HSZ : a.tmps.size = 100 := hsz
            obtain ⟨A2, c2, q2, X2, k1, k2, k3, k4, k5, k6, k7, k8⟩ := hJ.ex
            have e1 := slot_of (k4 (hW 12 (by kernel_rfl)))
            refine step_run (wanted_none rfl) (v := .int .i64 zb) (w' := W) ?_ (hK _ _ hC trivial trivial (by simp only [put_other (show (45:Nat) ≠ 12 by decide), put_other (show (35:Nat) ≠ 12 by decide), put_other (show (46:Nat) ≠ 12 by decide), put_other (show (47:Nat) ≠ 12 by decide), put_other (show (11:Nat) ≠ 12 by decide), put_self (show 12 < a.tmps.size by rw [HSZ]; omega)]; exact hJ.to_ae (hW 12 (by kernel_rfl))))
            clear hsz HSZ k1 k2 k3 k4 k5 k6 k7 k8
            go_simp
        · intro f W hC hv L hL hJ'
          obtain ⟨aE, hJ, hfr⟩ := hJ'
          obtain ⟨A2, c2, q2, X2, k1, k2, k3, k4, k5, k6, k7, k8⟩ := hJ.ex
          obtain ⟨j1, j2, j3, j4, j5⟩ := k1 (hL 9 (by decide))
          obtain ⟨m1, m2, m3, m4⟩ := k6 (hL 13 (by decide))
          have m7 := k7 (hL 14 (by decide))
          rw [m7] at m3
          have hfa : f 11 = .pointer (some ⟨q2, 0, none⟩) := by rw [← hfr 11]; exact m1
          have hfe : f 12 = .int .i64 zb := by rw [← hfr 12]; exact k5 (hL 15 (by decide))
          simp only [framed, List.foldl_cons, List.foldl_nil, List.setIfInBounds_toArray, List.set_cons_succ, List.set_cons_zero, hfa, hfe]
          clear j1 hv hJ hfr hL k1 k2 k3 k4 k5 k6 k7 k8 m1 m4 m7 hfa hfe
          rename_i K hK
          refine hK _ _ ?_
          obtain ⟨wb, hwb⟩ : ∃ x, x = W := ⟨_, rfl⟩
          subst hwb
          have hq2 := m3.lt
          have RB2 := hidd_ j2
          have NB := hidd_ j3
          have LB2 := hidd_ (And.intro j4 j5)
          have QB := hidd_ m3
          have HQB := hidd_ m2
          have RA2 := hidd_ ((RA3.out.below hC).more hC.size)
          have QA := hidd_ (QA3.out.below hC QA3.out.lt)
          have CAB := hidd_ (CA.out.below (HCA.out.trans (hC.mono HCA.out.size)))
          have CBB := hidd_ (CB2.out.below hC)
          have KA := hidd_ ((KA.out.below HCA.out KA.out.lt).below hC (KA.out.below HCA.out KA.out.lt).lt)
          have KB := hidd_ (KB.out.below hC KB.out.lt)
          have XB := hidd_ ((XR.out.trans (HCA.out.mono (by have := HGL.out; omega))).trans (hC.mono (by have := HCA.out.size; have := HGL.out; omega)))
          have KRB := hidd_ ((KR.out.below HCA.out KR.out.lt).below hC (KR.out.below HCA.out KR.out.lt).lt)
          have HGW := hidd_ (show g ≤ wb.heap.size by have := HCA.out.size; have := hC.size; have := HGL.out; omega)
          have IVB := hidd_ (show (Try.prog.info? 29).map (·.size) = some (ctxRow ub A2 mb.length c2).size by rw [ctxRow_size _ _ _ _ UUB.out]; exact iX_)
          obtain ⟨BB, hBB⟩ : ∃ x, x = A2 := ⟨_, rfl⟩
          subst hBB
          obtain ⟨cBB, hcBB⟩ : ∃ x, x = c2 := ⟨_, rfl⟩
          subst hcBB
          obtain ⟨qb, hqb⟩ : ∃ x, x = q2 := ⟨_, rfl⟩
          subst hqb
          clear hC j2 j3 j4 j5 m3 m2 hq2
          rcases SA.out with ⟨ha1, ha2, ha3⟩ | ⟨ha1, ha2⟩
          · subst ha2
            have OA := hidd_ ha3
            have EA := hidd_ (show valN l id (k + 1) = valN l id k ++ [d] by rw [valN]; simp only [id, HD.out]; rw [if_pos ha1])
            have HDD := hidd_ ha1
            clear ha1 ha3 SA
            go_upto_region 11 with (first
                  | (refine wpList_load_row rfl 29 (.tmp 9) rfl qa rfl 29 (ctxRow ua AA ma.length cAA) (0, 0) _ QA.out Try.underlying29 rfl IVA.out ?_)
                  | (refine wpList_put_row rfl 29 _ _ rfl (g + 1) (ctxRow ua AA ma.length cAA) rfl rfl 29 (ctxRow uA A mA.length cA) KA.out IVA.out (by rw [ctxRow_size _ _ _ _ HUL.out, ctxRow_size _ _ _ _ UA.out]) (ctxRow_one _ _ _ _) ?_; intro wc kc gc sc; have CA9 := hidd_ (show CtxAt wc (g + 3) (g + 1) (valN l id (k + 1)) by rw [EA.out]; exact CtxAt.mk_ kc RA2.out gc (by omega) (fun y hy => by have := NA.out y hy; have := HGL.out; omega) LA2.out OA.out); have CB9 := hidd_ (CBB.out.grown gc (by omega) (by omega)); have KB9 := hidd_ (KB.out.grown gc (fun e => by injection e with e; omega)); have QB9 := hidd_ (QB.out.grown gc (fun e => by injection e with e; have := HQB.out; have := HGL2.out; omega)); have RB9 := hidd_ ((RB2.out.grownR (Nat.le_refl _) gc (fun _ b off e => by have := NB.out _ e; simp only at this; have := HGL2.out; omega)).more gc.size); have XR9 := hidd_ (XB.out.grown gc HGW.out (fun k hk => by injection hk with hk; omega)); have KR9 := hidd_ (KRB.out.grown gc (fun e => by injection e with e; omega)); have HS9 := hidd_ (show g + 3 ≤ wc.heap.size by have := HGL2.out; have := HQB.out; have := QB.out.lt; omega); clear kc gc sc))
            rcases SB.out with ⟨hb1, hb2, hb3⟩ | ⟨hb1, hb2⟩
            · subst hb2
              have OB := hidd_ hb3
              have EB := hidd_ (show valN l (fun j => n - 1 - j) (k + 1) = valN l (fun j => n - 1 - j) k ++ [d'] by rw [valN]; simp only [HD'.out]; rw [if_pos hb1])
              clear hb1 hb3 SB
              go_upto_region 13 with (first
                    | (refine wpList_load_row rfl 29 (.tmp 11) rfl qb rfl 29 (ctxRow ub BB mb.length cBB) (0, 0) _ QB9.out Try.underlying29 rfl IVB.out ?_)
                    | (refine wpList_put_row rfl 29 _ _ rfl (g + 2) (ctxRow ub BB mb.length cBB) rfl rfl 29 (ctxRow uB B mB.length cB) KB9.out IVB.out (by rw [ctxRow_size _ _ _ _ UUB.out, ctxRow_size _ _ _ _ UB.out]) (ctxRow_one _ _ _ _) ?_; intro wd kd gd sd; have CBX := hidd_ (show CtxAt wd (g + 3) (g + 2) (valN l (fun j => n - 1 - j) (k + 1)) by rw [EB.out]; exact CtxAt.mk_ kd RB9.out gd (by omega) (fun y hy => by have := NB.out y hy; have := HGL2.out; omega) LB2.out OB.out); have CAX := hidd_ (CA9.out.grown gd (by omega) (by omega)); have XRX := hidd_ (XR9.out.grown gd (by have := HS9.out; omega) (fun k hk => by injection hk with hk; omega)); have KRX := hidd_ (KR9.out.grown gd (fun e => by injection e with e; omega)); have HSX := hidd_ (show g + 3 ≤ wd.heap.size by have := HS9.out; omega); clear kd gd sd))
              have CXW := hidd_ (CX0.out wd XRX.out)
              have cd := refDot_any wd d
              rw [HDD.out] at cd
              go_wp2_with (first
                | (refine wpList_load_part (by go_simp) 27 (.tmp 60) rfl b (off + k * 2) rfl d.row CXW.out _ Try.underlying27 rfl IDd.out ?_)
                | (go_at_call 18; ((with_reducible refine cd.mono ?_); clear cd; rintro e we ⟨rfl, hb⟩; have CAY := hidd_ (CAX.out.below hb); have CBY := hidd_ (CBX.out.below hb); have XRY := hidd_ (XRX.out.trans (hb.mono (by have := HSX.out; omega))); have KRY := hidd_ (KRX.out.below hb KRX.out.lt); have HSY := hidd_ (Nat.le_trans HSX.out hb.size); clear hb)))
              go_roundw
              case rel => exact ⟨k + 1, by omega, by go_num, rfl, HSY.out, CAY, CBY, XRY, KRY⟩
              case measure => simp [intOf]; omega
            · subst hb2
              have EB := hidd_ (show valN l (fun j => n - 1 - j) (k + 1) = valN l (fun j => n - 1 - j) k by rw [valN]; simp only [HD'.out]; rw [if_neg (by rw [hb1]; simp)])
              clear hb1 SB
              have CBX := hidd_ (show CtxAt wc (g + 3) (g + 2) (valN l (fun j => n - 1 - j) (k + 1)) by rw [EB.out]; exact CB9.out)
              have CAX := CA9
              have XRX := XR9
              have KRX := KR9
              have HSX := HS9
              go_upto_region 13 with fail
              have CXW := hidd_ (CX0.out wc XRX.out)
              have cd := refDot_any wc d
              rw [HDD.out] at cd
              go_wp2_with (first
                | (refine wpList_load_part (by go_simp) 27 (.tmp 60) rfl b (off + k * 2) rfl d.row CXW.out _ Try.underlying27 rfl IDd.out ?_)
                | (go_at_call 18; ((with_reducible refine cd.mono ?_); clear cd; rintro e we ⟨rfl, hb⟩; have CAY := hidd_ (CAX.out.below hb); have CBY := hidd_ (CBX.out.below hb); have XRY := hidd_ (XRX.out.trans (hb.mono (by have := HSX.out; omega))); have KRY := hidd_ (KRX.out.below hb KRX.out.lt); have HSY := hidd_ (Nat.le_trans HSX.out hb.size); clear hb)))
              go_roundw
              case rel => exact ⟨k + 1, by omega, by go_num, rfl, HSY.out, CAY, CBY, XRY, KRY⟩
              case measure => simp [intOf]; omega
          · subst ha2
            have EA := hidd_ (show valN l id (k + 1) = valN l id k by rw [valN]; simp only [id, HD.out]; rw [if_neg (by rw [ha1]; simp)])
            have HDD := hidd_ ha1
            clear ha1 SA
            have CA9 := hidd_ (show CtxAt wb (g + 3) (g + 1) (valN l id (k + 1)) by rw [EA.out]; exact CAB.out)
            have CB9 := CBB
            have KB9 := KB
            have QB9 := QB
            have RB9 := RB2
            have XR9 := XB
            have KR9 := KRB
            have HS9 := hidd_ (show g + 3 ≤ wb.heap.size by have := HGL2.out; have := HQB.out; have := QB.out.lt; omega)
            go_upto_region 11 with fail
            rcases SB.out with ⟨hb1, hb2, hb3⟩ | ⟨hb1, hb2⟩
            · subst hb2
              have OB := hidd_ hb3
              have EB := hidd_ (show valN l (fun j => n - 1 - j) (k + 1) = valN l (fun j => n - 1 - j) k ++ [d'] by rw [valN]; simp only [HD'.out]; rw [if_pos hb1])
              clear hb1 hb3 SB
              go_upto_region 13 with (first
                    | (refine wpList_load_row rfl 29 (.tmp 11) rfl qb rfl 29 (ctxRow ub BB mb.length cBB) (0, 0) _ QB9.out Try.underlying29 rfl IVB.out ?_)
                    | (refine wpList_put_row rfl 29 _ _ rfl (g + 2) (ctxRow ub BB mb.length cBB) rfl rfl 29 (ctxRow uB B mB.length cB) KB9.out IVB.out (by rw [ctxRow_size _ _ _ _ UUB.out, ctxRow_size _ _ _ _ UB.out]) (ctxRow_one _ _ _ _) ?_; intro wd kd gd sd; have CBX := hidd_ (show CtxAt wd (g + 3) (g + 2) (valN l (fun j => n - 1 - j) (k + 1)) by rw [EB.out]; exact CtxAt.mk_ kd RB9.out gd (by omega) (fun y hy => by have := NB.out y hy; have := HGL2.out; omega) LB2.out OB.out); have CAX := hidd_ (CA9.out.grown gd (by omega) (by omega)); have XRX := hidd_ (XR9.out.grown gd (by have := HS9.out; omega) (fun k hk => by injection hk with hk; omega)); have KRX := hidd_ (KR9.out.grown gd (fun e => by injection e with e; omega)); have HSX := hidd_ (show g + 3 ≤ wd.heap.size by have := HS9.out; omega); clear kd gd sd))
              have CXW := hidd_ (CX0.out wd XRX.out)
              have cd := refDot_any wd d
              rw [HDD.out] at cd
              go_wp2_with (first
                | (refine wpList_load_part (by go_simp) 27 (.tmp 60) rfl b (off + k * 2) rfl d.row CXW.out _ Try.underlying27 rfl IDd.out ?_)
                | (go_at_call 18; ((with_reducible refine cd.mono ?_); clear cd; rintro e we ⟨rfl, hb⟩; have CAY := hidd_ (CAX.out.below hb); have CBY := hidd_ (CBX.out.below hb); have XRY := hidd_ (XRX.out.trans (hb.mono (by have := HSX.out; omega))); have KRY := hidd_ (KRX.out.below hb KRX.out.lt); have HSY := hidd_ (Nat.le_trans HSX.out hb.size); clear hb)))
              go_roundw
              case rel => exact ⟨k + 1, by omega, by go_num, rfl, HSY.out, CAY, CBY, XRY, KRY⟩
              case measure => simp [intOf]; omega
            · subst hb2
              have EB := hidd_ (show valN l (fun j => n - 1 - j) (k + 1) = valN l (fun j => n - 1 - j) k by rw [valN]; simp only [HD'.out]; rw [if_neg (by rw [hb1]; simp)])
              clear hb1 SB
              have CBX := hidd_ (show CtxAt wb (g + 3) (g + 2) (valN l (fun j => n - 1 - j) (k + 1)) by rw [EB.out]; exact CB9.out)
              have CAX := CA9
              have XRX := XR9
              have KRX := KR9
              have HSX := HS9
              go_upto_region 13 with fail
              have CXW := hidd_ (CX0.out wb XRX.out)
              have cd := refDot_any wb d
              rw [HDD.out] at cd
              go_wp2_with (first
                | (refine wpList_load_part (by go_simp) 27 (.tmp 60) rfl b (off + k * 2) rfl d.row CXW.out _ Try.underlying27 rfl IDd.out ?_)
                | (go_at_call 18; ((with_reducible refine cd.mono ?_); clear cd; rintro e we ⟨rfl, hb⟩; have CAY := hidd_ (CAX.out.below hb); have CBY := hidd_ (CBX.out.below hb); have XRY := hidd_ (XRX.out.trans (hb.mono (by have := HSX.out; omega))); have KRY := hidd_ (KRX.out.below hb KRX.out.lt); have HSY := hidd_ (Nat.le_trans HSX.out hb.size); clear hb)))
              go_roundw
              case rel => exact ⟨k + 1, by omega, by go_num, rfl, HSY.out, CAY, CBY, XRY, KRY⟩
              case measure => simp [intOf]; omega
    · obtain rfl : k = n := by omega
      have d1 : decide ((k : Int) < (k : Int)) = false := decide_eq_false (by omega)
      have d2 : decide (k < k) = false := decide_eq_false (by omega)
      obtain ⟨uA, A, mA, cA, a1, a2, a3, a4, a5, a6⟩ := CA.out
      obtain ⟨uB, B, mB, cB, b1, b2, b3, b4, b5, b6⟩ := CB.out
      have hs := a6.one b6 (fun d hd => by
        rw [zup_none hd, zup_none hd, valN_mem, valN_mem]
        refine and_congr Iff.rfl ⟨fun ⟨j, h1, h2⟩ => ⟨k - 1 - j, by omega, ?_⟩, fun ⟨j, h1, h2⟩ => ⟨k - 1 - j, by omega, h2⟩⟩
        rw [show k - 1 - (k - 1 - j) = j by omega]
        exact h2)
      injection hs with hs1 hs2
      subst hs1 hs2
      have hlen := valN_len l id k
      have hmA : mA.length ≤ (valN l id k).length := ofX_len a6 up16_zero
      have HIN := hidd_ (show hasR uA mA ask = inB l ask k by
        rw [has_in a6 (by omega)]
        unfold inB
        rw [Bool.eq_iff_iff]
        simp only [Bool.and_eq_true, decide_eq_true_eq, valN_mem]
        rw [List.take_of_length_le (by rw [HL.out]; omega)]
        constructor
        · rintro ⟨h1, _, j, h2, h3⟩
          exact ⟨h1, by rw [← h3]; exact getD_mem (by rw [HL.out]; exact h2)⟩
        · rintro ⟨h1, h2⟩
          obtain ⟨j, h3, h4⟩ := mem_getD h2
          exact ⟨h1, h1, j, by rw [← HL.out]; exact h3, h4⟩)
      have KA := hidd_ a1
      have KB := hidd_ b1
      have RA := hidd_ a2
      have RB := hidd_ b2
      have LA := hidd_ a4
      have LB := hidd_ b4
      have UA := hidd_ (show uA.length = 16 from a6.1.up16.1)
      have HMA := hidd_ (show mA.length ≤ 900000 by omega)
      have HGL := hidd_ hgl
      clear a1 a2 a3 a4 a5 a6 b1 b2 b3 b4 b5 b6 CA CB hlen hmA
      obtain ⟨wp, hwp⟩ : ∃ x, x = wr := ⟨_, rfl⟩
      subst hwp
      go_upto_region 16 with fail
      go_loopw [13, 14] (fun v i wr => ∃ q : Nat, q ≤ k ∧ i = .int .i64 q ∧ v = .bool (inB l ask q) ∧ Hid (Below wp.heap.size wp wr)) (fun _ i _ => k - (intOf i).toNat)
      case atStart => exact ⟨0, by omega, rfl, by unfold inB; simp, hidd_ (Below.refl _ _)⟩
      case round =>
        obtain ⟨q, hq, rfl, rfl, HB⟩ := hrel
        by_cases hlt2 : q < k
        · obtain ⟨b, off, hAL, hbl, hcell⟩ := (HR0.out.below XR.out) (by rw [HL.out]; omega)
          subst hAL
          have hcx := hcell q (by rw [HL.out]; exact hlt2)
          obtain ⟨d, hd⟩ : ∃ d, l.getD q ⟨0, 0⟩ = d := ⟨_, rfl⟩
          rw [hd] at hcx
          have t0 : (0 : Int) ≤ (q : Int) := by omega
          have tn : (q : Int) < (k : Int) := by omega
          have hle := HB.out.size
          have hb1 : b < wp.heap.size := by have := HGL.out; omega
          have hg1 : g < wp.heap.size := by have := HGL.out; omega
          have CX := hidd_ (fun W (h : Below wp.heap.size wr W) => (show ∀ t, t < d.row.size → W.cell? ⟨b, off + q * 2 + t, none⟩ = d.row[t]? from fun t ht => by rw [(HB.out.trans h).cell (p := ⟨b, _, none⟩) hb1]; exact row_two hcx.1 hcx.2 t ht))
          have CD := hidd_ (fun W (h : Below wp.heap.size wr W) => (KR.out.below (HB.out.trans h) hg1 : Bk W g 27 ask.row))
          have IXX := hidd_ (show (Try.prog.info? 27).map (·.size) = some d.row.size from iD_)
          obtain ⟨ba, hba⟩ : ∃ x, isD ask = x := ⟨_, rfl⟩
          obtain ⟨be, hbe⟩ : ∃ x, decide (d = ask) = x := ⟨_, rfl⟩
          obtain ⟨v, hv⟩ : ∃ x, inB l ask q = x := ⟨_, rfl⟩
          have HNX := hidd_ (show inB l ask (q + 1) = (v || (be && ba)) by rw [inB_step l ask q (by rw [HL.out]; exact hlt2), hv, hd, hbe, hba])
          have P1 : Hid (∀ W, Below wp.heap.size wr W → Calls Try.prog 18 #[.agg ask.row] W fun e w' => e = .returned (.bool ba) ∧ Below wp.heap.size wr w') := hidd_ (fun W h => (refDot_any W ask).mono fun e w' hh => ⟨by rw [← hba]; exact hh.1, h.trans (hh.2.mono (Nat.le_trans hle h.size))⟩)
          have HBE := hidd_ hbe
          have HV := hidd_ hv
          rw [hv]
          clear hcx hd hcell hba hbe hv
          cases v
          all_goals cases be
          all_goals
            go_upto_region 18 with fail
            refine region_quiet_in (C := fun W => Below wp.heap.size wr W) (by kernel_rfl) (by kernel_rfl) ((Below.refl _ _).drew) ?_
            repeat (first | go_big_quiet_skip | (go_big_quiet_want; (first
              | (refine BigFrame.quiet_move _ rfl ?_; go_simp)
              | (refine BigFrame.quiet_assign _ rfl ?_; go_simp)
              | (refine quiet_load_rowd 27 (.tmp 3) rfl g rfl 27 ask.row _ Try.underlying27 rfl ID.out CD.out ?_; go_simp)
              | (refine quiet_load_sub 27 (.tmp 75) rfl b (off + q * 2) rfl d.row _ Try.underlying27 rfl IXX.out CX.out ?_; go_simp)
              | (refine quiet_run (.pointer (some ⟨b, off + q * 2, none⟩)) ?_ ?_; (focus (intro W hW; go_simp; done)); go_simp)
              | (refine quiet_call (.bool ba) 18 #[.agg ask.row] ?_ P1.out ?_; (focus (intro W; go_simp; done)); go_simp)
              | (refine quiet_eqlD (.tmp 76) (.tmp 77) _ rfl d ask rfl rfl ?_; rw [HBE.out]; go_simp)
              | (refine quiet_run (.bool true) ?_ ?_; (focus (intro W hW; go_simp; done)); go_simp)
              | (refine quiet_run (.bool false) ?_ ?_; (focus (intro W hW; go_simp; done)); go_simp)
              | (refine quiet_run (.bool ba) ?_ ?_; (focus (intro W hW; go_simp; done)); go_simp)); go_big_quiet_on))
            refine wpQuiet_nil ?_
            intro w7 hw7
            have B7 := hidd_ (HB.out.trans hw7)
            clear hw7 CX CD
            go_wp2
            go_roundw
            case rel => exact ⟨q + 1, by omega, by go_num, by rw [HNX.out]; rfl, B7⟩
            case measure => simp [intOf]; omega
        · obtain rfl : q = k := by omega
          have HB2 := HB
          have KA2 := hidd_ (KA.out.below HB.out KA.out.lt)
          have KB2 := hidd_ (KB.out.below HB.out KB.out.lt)
          have KG2 := hidd_ (KR.out.below HB.out KR.out.lt)
          have RA2 := hidd_ ((RA.out.below HB.out).more HB.out.size)
          have RB2 := hidd_ ((RB.out.below HB.out).more HB.out.size)
          have XQ := hidd_ (XR.out.trans (HB.out.mono (by have := HGL.out; omega)))
          have HGQ := hidd_ (show g ≤ wr.heap.size by have := HGL.out; have := HB.out.size; omega)
          have IA := hidd_ (fun A n c => (show (Try.prog.info? 29).map (·.size) = some (ctxRow uA A n c).size by rw [ctxRow_size _ _ _ _ UA.out]; exact iX_))
          have cd := dots_any wr
          rw [← HIN.out]
          obtain ⟨hv, hhv⟩ : ∃ x, hasR uA mA ask = x := ⟨_, rfl⟩
          have HHV := hidd_ hhv
          rw [hhv]
          clear HB KA KB KR RA RB XR hhv
          go_wp2_with (first
            | (go_at_call 15; ((with_reducible refine cd.mono ?_); clear cd; rintro e w3 ⟨rfl, hb⟩; have XQ3 := hidd_ (XQ.out.trans (hb.mono HGQ.out)); have KA3 := hidd_ (KA2.out.below hb KA2.out.lt); have KB3 := hidd_ (KB2.out.below hb KB2.out.lt); have KG3 := hidd_ (KG2.out.below hb KG2.out.lt); have RA3 := hidd_ ((RA2.out.below hb).more hb.size); have RB3 := hidd_ ((RB2.out.below hb).more hb.size); have HG3 := hidd_ (Nat.le_trans HGQ.out hb.size); clear hb; have cs := same_ctx w3 uA UA.out A mA.length cA mA rfl (by have := HMA.out; omega) RA3.out uA UA.out B mA.length cB mA rfl (by have := HMA.out; omega) RB3.out; rw [show sameR uA uA mA mA = true by unfold sameR; simp] at cs))
            | (refine wpList_load_rowWd (by go_simp) 29 (.tmp 5) rfl (g + 1) rfl 29 (ctxRow uA A mA.length cA) KA4.out _ Try.underlying29 rfl (IA.out _ _ _) ?_)
            | (refine wpList_load_rowWd (by go_simp) 29 (.tmp 5) rfl (g + 1) rfl 29 (ctxRow uA A mA.length cA) KA3.out _ Try.underlying29 rfl (IA.out _ _ _) ?_)
            | (refine wpList_load_rowWd (by go_simp) 29 (.tmp 6) rfl (g + 2) rfl 29 (ctxRow uA B mA.length cB) KB3.out _ Try.underlying29 rfl (IA.out _ _ _) ?_)
            | (refine wpList_load_rowWd (by go_simp) 27 (.tmp 3) rfl g rfl 27 ask.row KG4.out _ Try.underlying27 rfl ID.out ?_)
            | (go_at_call 30; ((with_reducible refine cs.mono ?_); clear cs; rintro e w4 ⟨rfl, hb⟩; have XQ4 := hidd_ (XQ3.out.trans (hb.mono HG3.out)); have KA4 := hidd_ (KA3.out.below hb KA3.out.lt); have KG4 := hidd_ (KG3.out.below hb KG3.out.lt); have HG4 := hidd_ (Nat.le_trans HG3.out hb.size); have RA4 := hidd_ ((RA3.out.below hb).more hb.size); clear hb; have ch := has_any_ w4 uA UA.out A mA.length cA mA rfl (by have := HMA.out; omega) LA.out RA4.out ask; rw [HHV.out] at ch))
            | (go_at_call 17; ((with_reducible refine ch.mono ?_); clear ch; rintro e w5 ⟨rfl, hb⟩; have XQ5 := hidd_ (XQ4.out.trans (hb.mono HG4.out)); clear hb)))
          go_ret
          exact ⟨by first | rfl | simp, by rw [HG.out]; exact XQ5.out⟩

set_option maxRecDepth 100000 in
theorem lifted (os : Os) (started : os.Started) (H : Type) (enc : TypeId × Value → H) :
    ReturnsInHanded {} Try.checked os 7 .any (Rows.dotGrowsSpec.pre6 enc Try.prog Try.f7 Rows.dotGrowsRow.domain false) (Rows.dotGrowsSpec.post enc Try.prog Try.f7 false true false false) := by
  refine returnsInHanded_of_change (C := Try.checked) own_ started (by kernel_rfl) Try.func7
    (ChangeSpec.witness6 (enc := enc) (C := Try.checked) false ⟨#[], #[.slice none 0 0, .agg #[.int .i64 0, .int .i64 0]], []⟩ 8 (by kernel_rfl) (by kernel_rfl) (by kernel_rfl) (by kernel_rfl)) ?_
  intro W base args ds gs before hval0 hW hcnd _
  have hval : ∀ (j : Nat) t v, Try.f7.params[j]? = some t → args[j]? = some v → Value.okWide Try.prog W .any base t v := hval0
  have hW' := hW
  obtain ⟨p, q, hA0, hV, rfl, hfz, hnd⟩ := hW
  have hA : DataW.TrodAll enc Try.prog W 0 (fun _ => true) true Try.f7.params.toList args.toList ds p := hA0
  rw [Try.params7] at hA hval
  obtain ⟨v0, vs0, d0, ds0, p0, q0, hargs, rfl, rfl, h0, r0⟩ := trodAll_cons hA
  obtain ⟨v1, vs1, d1, ds1, p1, q1, rfl, rfl, rfl, h1, r1⟩ := trodAll_cons r0
  obtain ⟨rfl, rfl, rfl⟩ := trodAll_nil r1
  obtain rfl : args = #[v0, v1] := by cases args; simp_all
  obtain ⟨rfl, rfl⟩ := trodVars_none hV
  obtain ⟨A0, l0, c0, rfl, hr0, hx0, hlc0, hcm0⟩ := open_dots Try.underlying23 Try.underlying27 ⟨rfl, rfl⟩ ⟨rfl, rfl⟩ Try.underlying3 (by kernel_rfl) (by kernel_rfl) (hval 0 23 v0 rfl rfl) h0
  obtain ⟨x1, rfl, hx1⟩ := open_dot Try.underlying27 ⟨rfl, rfl⟩ ⟨rfl, rfl⟩ Try.underlying3 (by kernel_rfl) (by kernel_rfl) (hval 1 27 v1 rfl rfl) h1
  refine (walk W A0 l0 c0 hr0 hlc0 (by unfold maxLen at hcm0; omega) x1).mono fun e W' ⟨he, hg⟩ => ⟨_, he, ?_⟩
  exact law_post laidOut_ (of_decide_eq_true (by kernel_rfl)) rfl rfl Try.underlying4 rfl hW' hg

theorem over : Rows.dotGrowsRow.holds Try.pinned (OpenSpec.ofChange Rows.dotGrowsSpec) :=
  OpenClaim.holds_of_wide 7 Try.f7 rfl rfl rfl rfl rfl rfl rfl ⟨rfl, rfl, rfl, rfl, rfl⟩ rfl rfl rfl rfl rfl (by kernel_rfl) Try.func7 (by kernel_rfl)
    (of_decide_eq_true (by kernel_rfl)) (by unfold Func.isWrapper; first | (rw [if_pos (by decide +kernel)]; kernel_rfl) | (rw [if_neg (by decide +kernel)]; exact ⟨rfl, rfl⟩))
    (fun os started H enc _ => lifted os started H enc)

theorem proved : Rows.DotGrowsSaid := over
#print axioms proved
end Go.Proofs.Ytjflmfmncepeeaa.dotGrows
