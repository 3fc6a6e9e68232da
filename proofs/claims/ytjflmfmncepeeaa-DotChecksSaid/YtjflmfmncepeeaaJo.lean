/-
  dot.Write.
-/
import Derived.Test.YtjflmfmncepeeaaJd
import Derived.Test.YtjflmfmncepeeaaJf
import Derived.Test.YtjflmfmncepeeaaG8
import Derived.Test.YtjflmfmncepeeaaGD
namespace Go.Proofs.Ytjflmfmncepeeaa
open Go.ChangeShapes Go.WideShapes Go.ChangeAt Go.RowKit
set_option linter.unusedVariables false
set_option linter.unusedSimpArgs false

/-- The bytes of numbers, of dots, of a context. -/
def numsB (up : List Int) : List UInt8 := up.flatMap fun z => highB 8 z.toNat
def dotsB (ms : List DotV) : List UInt8 := ms.flatMap fun d => highB 8 d.c.toNat ++ highB 8 d.n.toNat
def wrB (up : List Int) (ms : List DotV) : List UInt8 := numsB up ++ UInt8.ofNat ms.length :: dotsB ms
theorem numsB_len (up : List Int) : (numsB up).length = 8 * up.length := by
  unfold numsB
  induction up with
  | nil => rfl
  | cons z l ih => rw [List.flatMap_cons, List.length_append, highB_len, ih, List.length_cons]; omega
theorem dotsB_len (ms : List DotV) : (dotsB ms).length = 16 * ms.length := by
  unfold dotsB
  induction ms with
  | nil => rfl
  | cons z l ih => rw [List.flatMap_cons, List.length_append, List.length_append, highB_len, highB_len, ih, List.length_cons]; omega
theorem numsB_snoc (up : List Int) (k : Nat) (h : k < up.length) : numsB (up.take (k + 1)) = numsB (up.take k) ++ highB 8 (up.getD k 0).toNat := by
  unfold numsB
  rw [List.take_succ_eq_append_getElem h, List.flatMap_append]
  simp [List.getD, h]
theorem dotsB_snoc (ms : List DotV) (k : Nat) (h : k < ms.length) : dotsB (ms.take (k + 1)) = dotsB (ms.take k) ++ (highB 8 (ms.getD k ⟨0, 0⟩).c.toNat ++ highB 8 (ms.getD k ⟨0, 0⟩).n.toNat) := by
  unfold dotsB
  rw [take_snocD ms k h, List.flatMap_append]
  simp
/-- An Out that lies from p on, apart from some blocks. -/
def OutS (w2 : World) (p : Nat) (X : List Nat) (l : List UInt8) (W : World) : Prop := ∃ F, OutF W p l false F ∧ (∀ k ∈ F, p ≤ k) ∧ (∀ x ∈ X, x ∉ F ∧ x < W.heap.size) ∧ Below p w2 W
theorem OutF.inw {w : World} {g : Nat} {l : List UInt8} {bad : Bool} {F : List Nat} (h : OutF w g l bad F) : g < w.heap.size := by
  obtain ⟨_, all, hb, _⟩ := h
  exact hb.lt
theorem OutS.step {w2 W W' : World} {p : Nat} {X F F' : List Nat} {l' : List UInt8} (hf : ∀ k ∈ F, p ≤ k) (hx : ∀ x ∈ X, x ∉ F ∧ x < W.heap.size) (hb : Below p w2 W) (hp : p ≤ W.heap.size) (h1 : OutF W' p l' false F') (h2 : Grew W F F') (h3 : Untouched F W W') : OutS w2 p X l' W' ∧ ∀ x ∈ X, W'.heap[x]? = W.heap[x]? := by
  have hw : Below p W W' := h3.below hf hp
  refine ⟨⟨F', h1, fun k hk => ?_, fun x hx' => ⟨fun hm => ?_, Nat.lt_of_lt_of_le (hx x hx').2 h3.size⟩, hb.trans hw⟩, fun x hx' => h3.block x (hx x hx').2 (hx x hx').1⟩
  · rcases h2 k hk with h | h
    · exact hf k h
    · omega
  · rcases h2 x hm with h | h
    · exact (hx x hx').1 h
    · have := (hx x hx').2; omega
theorem outs_num {w2 W : World} {p : Nat} {X : List Nat} {l : List UInt8} (h : OutS w2 p X l W) (k : Nat) (hk : k ≤ 9223372036854775807) (hs : l.length + 8 ≤ 140737488355328) :
    Calls Try.prog 32 #[.pointer (some ⟨p, 0, none⟩), .int .i64 (k : Int)] W fun e w' => e = .returned (.pointer (some ⟨p, 0, none⟩)) ∧ OutS w2 p X (l ++ highB 8 k) w' ∧ ∀ x ∈ X, w'.heap[x]? = W.heap[x]? := by
  obtain ⟨F, h1, h2, h3, h4⟩ := h
  exact (num_any W p l false F k h1 hk hs).mono fun e w' ⟨he, F', k1, k2, k3⟩ => ⟨he, OutS.step h2 h3 h4 (Nat.le_of_lt h1.inw) k1 k2 k3⟩
theorem outs_small {w2 W : World} {p : Nat} {X : List Nat} {l : List UInt8} (h : OutS w2 p X l W) (k : Nat) (hk : k < 256) (hs : l.length + 1 ≤ 140737488355328) :
    Calls Try.prog 33 #[.pointer (some ⟨p, 0, none⟩), .int .i64 (k : Int)] W fun e w' => e = .returned (.pointer (some ⟨p, 0, none⟩)) ∧ OutS w2 p X (l ++ [UInt8.ofNat k]) w' ∧ ∀ x ∈ X, w'.heap[x]? = W.heap[x]? := by
  obtain ⟨F, h1, h2, h3, h4⟩ := h
  exact (small_any W p l false F k h1 hk hs).mono fun e w' ⟨he, F', k1, k2, k3⟩ => ⟨he, OutS.step h2 h3 h4 (Nat.le_of_lt h1.inw) k1 k2 k3⟩
theorem OutS.fresh {w2 W W' : World} {p : Nat} {l : List UInt8} (h : OutS w2 p [] l W) (hb : Below W.heap.size W W') (hs : W.heap.size < W'.heap.size) : OutS w2 p [W.heap.size] l W' := by
  obtain ⟨F, h1, h2, h3, h4⟩ := h
  refine ⟨trim W F, h1.trim.below hb, fun k hk => h2 k (mem_trim.1 hk).1, fun x hx => ?_, h4.trans (hb.mono (Nat.le_of_lt h1.inw))⟩
  obtain rfl := List.mem_singleton.1 hx
  exact ⟨fun hm => by have := (mem_trim.1 hm).2; omega, hs⟩
theorem OutS.drop {w2 W : World} {p : Nat} {X : List Nat} {l : List UInt8} (h : OutS w2 p X l W) : OutS w2 p [] l W := by
  obtain ⟨F, h1, h2, h3, h4⟩ := h
  exact ⟨F, h1, h2, fun x hx => (by cases hx), h4⟩
theorem OutS.bel {w2 W : World} {p : Nat} {X : List Nat} {l : List UInt8} (h : OutS w2 p X l W) : Below p w2 W ∧ p < W.heap.size := by
  obtain ⟨F, h1, h2, h3, h4⟩ := h
  exact ⟨h4, h1.inw⟩
theorem OutS.drew {w2 W : World} {p : Nat} {X : List Nat} {l : List UInt8} (h : OutS w2 p X l W) : OutS w2 p X l W.drew := by
  obtain ⟨F, h1, h2, h3, h4⟩ := h
  exact ⟨F, h1, h2, h3, h4.drew⟩
/-- Two numbers, one behind the other: what was done so far. -/
structure WrJ (w2 : World) (p gd : Nat) (l : List UInt8) (c n : Nat) (row : Array Value) (a b : Bool) (W : World) : Prop where
  bk : Bk W gd 27 row
  h0 : a = false → OutS w2 p [gd] l W
  h1 : a = true → b = false → OutS w2 p [gd] (l ++ highB 8 c) W
  h2 : b = true → OutS w2 p [gd] (l ++ highB 8 c ++ highB 8 n) W
  hs : b = true → a = true
def WrR (p gd c n : Nat) : Nat → Value → Prop
  | 0, v => v = .pointer (some ⟨p, 0, none⟩)
  | 1, v => v = .pointer (some ⟨gd, 0, none⟩)
  | 2, v => v = .int .i64 c
  | 3, v => v = .pointer (some ⟨p, 0, none⟩)
  | 4, v => v = .pointer (some ⟨gd, 1, none⟩)
  | 5, v => v = .int .i64 n
  | 6, v => v = .pointer (some ⟨p, 0, none⟩)
  | _, _ => True
theorem wrB_take (up : List Int) (ms : List DotV) (hu : up.length = 16) (k : Nat) (hk : k = ms.length) : numsB (up.take 16) ++ [UInt8.ofNat ms.length] ++ dotsB (ms.take k) = wrB up ms := by
  unfold wrB
  rw [List.take_of_length_le (by omega), List.take_of_length_le (by omega), List.append_assoc]
  rfl

set_option maxRecDepth 100000 in
set_option maxHeartbeats 2000000 in
theorem write_no (w : World) (up : List Int) (hu : up.length = 16) (A : Option Addr) (n c : Nat) (ms : List DotV) (hn : ms.length = n) (hn6 : n ≤ 1000000) (hc : n ≤ c) (hr : RdD w w.heap.size A ms) (hk : chk up ms ≠ 0) :
    Calls Try.prog 12 #[.agg (ctxRow up A n c)] w fun e w' => e = .returned (.tuple #[.slice none 0 0, .int .i64 (chk up ms)]) ∧ Below w.heap.size w w' := by
  obtain ⟨g, hg⟩ : ∃ g, w.heap.size = g := ⟨_, rfl⟩
  obtain ⟨w0, hw0⟩ : ∃ w0, w.alloc (.cells (ctxRow up A n c) 29) = w0 := ⟨_, rfl⟩
  have K0 := hidd_ (show Bk w0 g 29 (ctxRow up A n c) by rw [← hw0, ← hg]; exact Bk.new w _ _)
  have X0 := hidd_ (show Below g w w0 by rw [← hw0, ← hg]; exact (Below.refl _ _).alloc (Nat.le_refl _) _)
  rw [hg] at hr
  have hgl : g < w0.heap.size := K0.out.lt
  have cc := check_any w0 up hu A n c ms hn hn6 hc ((hr.below X0.out).more (Nat.le_of_lt hgl))
  have IX := hidd_ (show (Try.prog.info? 29).map (·.size) = some (ctxRow up A n c).size by rw [ctxRow_size up A n c hu]; exact iX_)
  have HG := hidd_ hg
  obtain ⟨e, he⟩ : ∃ e, chk up ms = e := ⟨_, rfl⟩
  rw [he] at cc hk ⊢
  have b1 : (e == 0) = false := by simpa using hk
  have b2 : (e != 0) = true := by simpa using hk
  clear hu hn hr hk he
  go_enter Try.func12, Try.ntmps12
  go_wp2_with (first
    | (refine wpList_load_row rfl 29 (.tmp 1) rfl g rfl 29 (ctxRow up A n c) (0, 0) _ K0.out Try.underlying29 rfl IX.out ?_)
    | (go_at_call 16; ((with_reducible refine cc.mono ?_); clear cc; rintro e w1 ⟨rfl, hb⟩; have X1 := hidd_ (X0.out.trans (hb.mono (Nat.le_of_lt hgl))); clear hb)))
  go_ret2
  exact ⟨rfl, by first | exact X1.out | (rw [HG.out]; exact X1.out)⟩

set_option maxRecDepth 100000 in
set_option maxHeartbeats 8000000 in
theorem write_yes (w : World) (up : List Int) (hu : up.length = 16) (A : Option Addr) (n c : Nat) (ms : List DotV) (hn : ms.length = n) (hn6 : n ≤ 1000000) (hc : n ≤ c) (hr : RdD w w.heap.size A ms) (hk : chk up ms = 0) :
    Calls Try.prog 12 #[.agg (ctxRow up A n c)] w fun e w' => ∃ A' c', e = .returned (.tuple #[.slice A' (129 + 16 * n) c', .int .i64 0]) ∧ Own8 w' w.heap.size (.slice A' (129 + 16 * n) c') (wrB up ms) ∧ Below w.heap.size w w' := by
  obtain ⟨g, hg⟩ : ∃ g, w.heap.size = g := ⟨_, rfl⟩
  obtain ⟨w0, hw0⟩ : ∃ w0, w.alloc (.cells (ctxRow up A n c) 29) = w0 := ⟨_, rfl⟩
  have K0 := hidd_ (show Bk w0 g 29 (ctxRow up A n c) by rw [← hw0, ← hg]; exact Bk.new w _ _)
  have X0 := hidd_ (show Below g w w0 by rw [← hw0, ← hg]; exact (Below.refl _ _).alloc (Nat.le_refl _) _)
  rw [hg] at hr
  have hgl : g < w0.heap.size := K0.out.lt
  have cc := check_any w0 up hu A n c ms hn hn6 hc ((hr.below X0.out).more (Nat.le_of_lt hgl))
  rw [hk] at cc
  obtain ⟨hcan, hl32⟩ := chk_can hu hk
  have HCAN := hidd_ hcan
  have IX := hidd_ (show (Try.prog.info? 29).map (·.size) = some (ctxRow up A n c).size by rw [ctxRow_size up A n c hu]; exact iX_)
  have IU := hidd_ (show (Try.prog.info? 22).map (·.size) = some (intRow up).size by rw [intRow_size, hu]; exact iU_)
  have HG := hidd_ hg
  have HU := hidd_ hu
  have HN := hidd_ hn
  have HR := hidd_ hr
  have hn32 : n ≤ 32 := by omega
  have hix := hidd_ (fun k hk W => index_up up k hu hk W)
  have hzD := zD_
  clear hu hn hr hk hcan hl32
  go_enter Try.func12, Try.ntmps12
  go_upto_region 4 with (first
    | (refine wpList_load_row rfl 29 (.tmp 1) rfl g rfl 29 (ctxRow up A n c) (0, 0) _ K0.out Try.underlying29 rfl IX.out ?_)
    | (go_at_call 16; ((with_reducible refine cc.mono ?_); clear cc; rintro e w1 ⟨rfl, hb⟩; have X1 := hidd_ (X0.out.trans (hb.mono (Nat.le_of_lt hgl))); have K1 := hidd_ (K0.out.below hb hgl); have hgl1 := Nat.lt_of_lt_of_le hgl hb.size; clear hb)))
  clear hw0 hg
  have HO := hidd_ (OutF.zero w1)
  obtain ⟨w2, hw2⟩ : ∃ x, w1.alloc (.cells #[.pointer none, .int .i64 0, .bool false] 67) = x := ⟨_, rfl⟩
  have b2 : Below w1.heap.size w1 w2 := by rw [← hw2]; exact (Below.refl _ _).alloc (Nat.le_refl _) _
  have K2 := hidd_ (K1.out.below b2 hgl1)
  have OS := hidd_ (show OutS w1 w1.heap.size [] (numsB (up.take 0)) w2 from ⟨_, by rw [← hw2]; exact HO.out, fun k hk => by rcases List.mem_singleton.1 hk with rfl; exact Nat.le_refl _, fun x hx => (by cases hx), b2⟩)
  have KU := hidd_ (fun j (hj : j < (intRow up).size) => (show w2.cell? ⟨g, 0 + j, none⟩ = (intRow up)[j]? by rw [intRow_size, HU.out] at hj; rw [Nat.zero_add, K2.out.cell j, ctxRow_up up A n c j HU.out hj, intRow_at up j (by have := HU.out; omega)]))
  go_upto_region 6 with (refine wpList_load_part (wanted_none rfl) 22 (.tmp 16) rfl g 0 rfl (intRow up) KU.out _ Try.underlying22 rfl IU.out ?_)
  clear hw2 b2 KU K0 X0 hgl HO
  generalize w1.heap.size = p at *
  go_loopw [7, 18] (fun _ i wr => ∃ k : Nat, k ≤ 16 ∧ i = .int .i64 k ∧ Hid (OutS w1 p [] (numsB (up.take k)) wr)) (fun _ i _ => 16 - (intOf i).toNat)
  case atStart => exact ⟨0, by omega, rfl, OS⟩
  case round =>
    obtain ⟨k, hk, rfl, HS⟩ := hrel
    by_cases hlt : k < 16
    · have hi := fun W => hix.out k hlt W
      have hub := HCAN.out.up16.2 k
      obtain ⟨q, hq⟩ : ∃ q : Nat, up.getD k 0 = (q : Int) := ⟨(up.getD k 0).toNat, by omega⟩
      rw [hq] at hi hub
      have HST := hidd_ (show numsB (up.take (k + 1)) = numsB (up.take k) ++ highB 8 q by rw [numsB_snoc up k (by rw [HU.out]; exact hlt), hq]; rfl)
      have hle : (numsB (up.take k)).length ≤ 128 := by rw [numsB_len, List.length_take]; omega
      have cn := outs_num HS.out q (by omega) (by omega)
      clear hq
      go_wp2_with (go_at_call 32; ((with_reducible refine cn.mono ?_); clear cn; rintro e w5 ⟨rfl, h1, _⟩; have H5 := hidd_ h1; clear h1))
      go_roundw
      case rel => exact ⟨k + 1, by omega, by go_num, by rw [HST.out]; exact H5⟩
      case measure => simp [intOf]; omega
    · obtain rfl : k = 16 := by omega
      have d1 : decide (((16 : Nat) : Int) < 16) = false := rfl
      have hbl := HS.out.bel
      have KR := hidd_ (K1.out.below hbl.1 (by have := hbl.2; have := K1.out.lt; exact hgl1))
      have hm := (KR.out.cell 16).trans (ctxRow_more up A n c HU.out)
      have hgr : g < wr.heap.size := KR.out.lt
      have hle : (numsB (up.take 16)).length ≤ 128 := by rw [numsB_len, List.length_take]; omega
      have cs := outs_small HS.out n (by omega) (by omega)
      have t0 : (0 : Int) ≤ (n : Int) := by omega
      clear OS K2 hix hbl
      go_upto_region 11 with (go_at_call 33; ((with_reducible refine cs.mono ?_); clear cs; rintro e w5 ⟨rfl, h1, _⟩; have H5 := hidd_ h1; clear h1))
      have hbl5 := H5.out.bel
      have K5 := hidd_ (K1.out.below hbl5.1 hgl1)
      have hm5 := (K5.out.cell 16).trans (ctxRow_more up A n c HU.out)
      clear hm HS KR hgr
      go_upto_region 12 with fail
      clear hm5
      have HS5 := hidd_ (show OutS w1 p [] (numsB (up.take 16) ++ [UInt8.ofNat ms.length] ++ dotsB (ms.take 0)) w5 by
        rw [HN.out, List.take_zero, show dotsB [] = [] from rfl, List.append_nil]; exact H5.out)
      obtain ⟨wq, hwq⟩ : ∃ x, x = w5 := ⟨_, rfl⟩
      subst hwq
      go_loopw [33] (fun i wr => ∃ k : Nat, k ≤ n ∧ i = .int .i64 k ∧ Hid (OutS w1 p [] (numsB (up.take 16) ++ [UInt8.ofNat ms.length] ++ dotsB (ms.take k)) wr)) (fun i _ => n - (intOf i).toNat)
      case atStart => exact ⟨0, by omega, rfl, HS5⟩
      case round =>
        obtain ⟨k, hk, rfl, HS⟩ := hrel
        have hbl := HS.out.bel
        by_cases hlt : k < n
        · obtain ⟨b, off, rfl, hbb, hcell⟩ := (HR.out.below X1.out) (by rw [HN.out]; omega)
          obtain ⟨d, hd⟩ : ∃ x, ms.getD k ⟨0, 0⟩ = x := ⟨_, rfl⟩
          have hcx := hcell k (by rw [HN.out]; exact hlt)
          rw [hd] at hcx
          have hmem : d ∈ ms := by rw [← hd]; exact getD_mem (by rw [HN.out]; exact hlt)
          obtain ⟨⟨hb1, hb2⟩, hb3, hb4⟩ := isD_iff.1 (HCAN.out.dots d hmem)
          obtain ⟨dc, hdc⟩ : ∃ q : Nat, d.c = (q : Int) := ⟨d.c.toNat, by omega⟩
          obtain ⟨dn, hdn⟩ : ∃ q : Nat, d.n = (q : Int) := ⟨d.n.toNat, by omega⟩
          have HST := hidd_ (show numsB (up.take 16) ++ [UInt8.ofNat ms.length] ++ dotsB (ms.take (k + 1)) = numsB (up.take 16) ++ [UInt8.ofNat ms.length] ++ dotsB (ms.take k) ++ highB 8 dc ++ highB 8 dn by
            rw [dotsB_snoc ms k (by rw [HN.out]; exact hlt), hd, hdc, hdn]
            simp only [List.append_assoc, Int.toNat_natCast])
          have hle2 : (numsB (up.take 16) ++ [UInt8.ofNat ms.length] ++ dotsB (ms.take k)).length ≤ 1000 := by
            rw [List.length_append, List.length_append, numsB_len, dotsB_len, List.length_take, List.length_take]; simp only [List.length_singleton]; have := HN.out; omega
          have hbp : b < p := by have := hbb; omega
          have CX := hidd_ (row_two (w := wr) ((hbl.1.cell (p := ⟨b, _, none⟩) hbp).trans hcx.1) ((hbl.1.cell (p := ⟨b, _, none⟩) hbp).trans hcx.2))
          have ID := hidd_ (show (Try.prog.info? 27).map (·.size) = some d.row.size from iD_)
          have t1 : (0 : Int) ≤ (k : Int) := by omega
          have tn : (k : Int) < (n : Int) := by omega
          have hd1 : dc ≤ 16 := by omega
          have hd2 : dn ≤ 1099511627776 := by omega
          clear hcx hd hmem hcell hb1 hb2 hb3 hb4
          go_upto_region 14 with (first
            | (refine wpList_load_part (wanted_none rfl) 27 (.tmp 35) rfl b (off + k * 2) rfl d.row CX.out _ Try.underlying27 rfl ID.out ?_)
            | (refine wpList_put_row rfl 27 _ _ rfl wr.heap.size d.row rfl rfl 27 #[.int .i64 0, .int .i64 0] (Bk.new wr _ _) ID.out rfl (row_one d) ?_; intro w6 k6 g6 s6; have B6 := hidd_ (((Below.refl wr.heap.size wr).alloc (Nat.le_refl _) (.cells #[.int .i64 0, .int .i64 0] 27)).grown g6 (by simp) (fun k hk => by injection hk with hk; omega)); have D6 := hidd_ k6; clear k6 g6 s6))
          try rw [put_none]
          have O6 := hidd_ (HS.out.fresh B6.out D6.out.lt)
          generalize wr.heap.size = gd at *
          obtain ⟨L, hL⟩ : ∃ l, numsB (up.take 16) ++ [UInt8.ofNat ms.length] ++ dotsB (ms.take k) = l := ⟨_, rfl⟩
          rw [hL] at O6 HST hle2
          have D6' := show Bk w6 gd 27 #[.int .i64 dc, .int .i64 dn] by have := D6.out; unfold DotV.row at this; rw [hdc, hdn] at this; exact this
          have C0 : WrJ w1 p gd L dc dn #[.int .i64 dc, .int .i64 dn] false false w6 := ⟨D6', fun _ => O6.out, fun e => Bool.noConfusion e, fun e => Bool.noConfusion e, fun e => Bool.noConfusion e⟩
          have HL := hidd_ hL
          have HLE := hidd_ hle2
          clear HS B6 CX D6' O6 hL hdc hdn
          refine region_byJF [37, 38, 39, 40, 41, 42, 43] (fun _ => True) (fun _ _ => True) (fun jj v _ => WrR p gd dc dn jj v) (fun D a W => WrJ w1 p gd L dc dn #[.int .i64 dc, .int .i64 dn] (D 3) (D 6) W) (by kernel_rfl) (by kernel_rfl) (by kernel_rfl) (by kernel_rfl) (fun j v w w' hT hr => hr) (fun j v w hlt hj _ => ?_) trivial ?_ ?_ ?_
          · rcases j with _ | _ | _ | _ | _ | _ | _ | j
            all_goals first
              | (exfalso; simp [dstOf] at hj; done)
              | trivial
          · refine ⟨fun D a W hC hd hsz hf hv hJ hL hW K hK => ?_, fun D a W hC hd hsz hf hv hJ hL hW K hK => ?_, fun D a W hC hd hsz hf hv hJ hL hW K hK => ?_, fun D a W hC hd hsz hf hv hJ hL hW K hK => ?_, fun D a W hC hd hsz hf hv hJ hL hW K hK => ?_, fun D a W hC hd hsz hf hv hJ hL hW K hK => ?_, fun D a W hC hd hsz hf hv hJ hL hW K hK => ?_, trivial⟩
            · have e1 := slot_of (a := a) (s := 5) (v := .pointer (some ⟨p, 0, none⟩)) (hf 5 (by kernel_rfl))
              refine step_run (wanted_none rfl) (v := .pointer (some ⟨p, 0, none⟩)) (w' := W) ?_ (hK _ _ trivial trivial rfl hJ)
              clear hsz
              go_simp
            · have e1 := slot_of (a := a) (s := 9) (v := .pointer (some ⟨gd, 0, none⟩)) (hf 9 (by kernel_rfl))
              refine step_run (wanted_none rfl) (v := .pointer (some ⟨gd, 0, none⟩)) (w' := W) ?_ (hK _ _ trivial trivial rfl hJ)
              clear hsz
              go_simp
            · have e1 := slot_of (a := a) (s := 38) (v := .pointer (some ⟨gd, 0, none⟩)) (hv 1 (by kernel_rfl))
              have hcc := (Bk.twod hJ.bk).1
              refine step_run (wanted_none rfl) (v := .int .i64 (dc : Int)) (w' := W) ?_ (hK _ _ trivial trivial rfl hJ)
              clear hsz
              go_simp
            · have e1 := slot_of (a := a) (s := 37) (v := .pointer (some ⟨p, 0, none⟩)) (hv 0 (by kernel_rfl))
              have e2 := slot_of (a := a) (s := 39) (v := .int .i64 (dc : Int)) (hv 2 (by kernel_rfl))
              have hb6 : D 6 = false := by cases h6 : D 6 with | false => rfl | true => exact absurd (hJ.hs h6) (by rw [hL]; simp)
              refine step_callx 32 #[.pointer (some ⟨p, 0, none⟩), .int .i64 (dc : Int)] (wanted_none rfl) (w' := W) ?_ ((outs_num (hJ.h0 hL) dc (by omega) (by have := HLE.out; omega)).mono ?_)
              · clear hsz
                go_simp
              · rintro e W' ⟨rfl, h1, h2⟩
                exact ⟨_, rfl, hK _ _ trivial trivial rfl ⟨(h2 gd (List.mem_singleton.2 rfl)).trans hJ.bk, fun e => (by simp at e), fun _ _ => h1, fun e => (by simp at e; rw [hb6] at e; cases e), fun _ => (by simp)⟩⟩
            · have e1 := slot_of (a := a) (s := 9) (v := .pointer (some ⟨gd, 0, none⟩)) (hf 9 (by kernel_rfl))
              refine step_run (wanted_none rfl) (v := .pointer (some ⟨gd, 1, none⟩)) (w' := W) ?_ (hK _ _ trivial trivial rfl hJ)
              clear hsz
              go_simp
            · have e1 := slot_of (a := a) (s := 41) (v := .pointer (some ⟨gd, 1, none⟩)) (hv 4 (by kernel_rfl))
              have hcc := (Bk.twod hJ.bk).2
              refine step_run (wanted_none rfl) (v := .int .i64 (dn : Int)) (w' := W) ?_ (hK _ _ trivial trivial rfl hJ)
              clear hsz
              go_simp
            · have e1 := slot_of (a := a) (s := 40) (v := .pointer (some ⟨p, 0, none⟩)) (hv 3 (by kernel_rfl))
              have e2 := slot_of (a := a) (s := 42) (v := .int .i64 (dn : Int)) (hv 5 (by kernel_rfl))
              have ha3 := hW 3 (by kernel_rfl)
              refine step_callx 32 #[.pointer (some ⟨p, 0, none⟩), .int .i64 (dn : Int)] (wanted_none rfl) (w' := W) ?_ ((outs_num (hJ.h1 ha3 hL) dn (by omega) (by rw [List.length_append, highB_len]; have := HLE.out; omega)).mono ?_)
              · clear hsz
                go_simp
              · rintro e W' ⟨rfl, h1, h2⟩
                exact ⟨_, rfl, hK _ _ trivial trivial rfl ⟨(h2 gd (List.mem_singleton.2 rfl)).trans hJ.bk, fun e => (by simp [ha3] at e), fun _ e => (by simp at e), fun _ => h1, fun _ => (by simp [ha3])⟩⟩
          · exact ⟨C0.bk, fun e => (C0.h0 e).drew, fun e e2 => (C0.h1 e e2).drew, fun e => (C0.h2 e).drew, C0.hs⟩
          · intro f W hC hv L2 hL2 hJ'
            obtain ⟨aE, hJ, hfr⟩ := hJ'
            have H9 := hidd_ ((hJ.h2 (hL2 6 (by decide))).drop)
            simp only [framed, List.foldl_cons, List.foldl_nil, List.setIfInBounds_toArray, List.set_cons_succ, List.set_cons_zero]
            clear hv hC hJ hfr hL2 C0
            rename_i K hK
            refine hK _ _ ?_
            go_wp2
            go_roundw
            case rel => exact ⟨k + 1, by omega, by go_num, by rw [HST.out]; exact H9⟩
            case measure => simp [intOf]; omega
        · obtain rfl : k = n := by omega
          have d3 : decide ((k : Int) < (k : Int)) = false := decide_eq_false (by omega)
          have d4 : decide (k < k) = false := decide_eq_false (by omega)
          have HE := HS.out
          rw [wrB_take up ms HU.out k HN.out.symm] at HE
          obtain ⟨F, f1, f2, f3, f4⟩ := HE
          have hwl : (wrB up ms).length = 129 + 16 * k := by
            unfold wrB
            rw [List.length_append, List.length_cons, numsB_len, dotsB_len, HU.out, HN.out]
            omega
          have cd := done_any wr p (129 + 16 * k) (wrB up ms) false F f1 hwl (by omega)
          rw [show (if false = true then (1 : Int) else 0) = 0 from rfl] at cd
          have XR := hidd_ (X1.out.trans (f4.mono (Nat.le_of_lt hgl1)))
          have hgr : g ≤ wr.heap.size := by have := hbl.2; omega
          clear hwl f1 f2 f3 f4 HS5 HS
          go_wp2_with (go_at_call 34; ((with_reducible refine cd.mono ?_); clear cd; rintro e w8 ⟨A8, c8, rfl, ho, hb⟩; have O8 := hidd_ ho; have X8 := hidd_ (XR.out.trans (hb.mono hgr)); clear ho hb))
          go_ret2
          exact ⟨A8, c8, rfl, by rw [HG.out]; exact Own8.lower O8.out hgr, by rw [HG.out]; exact X8.out⟩
end Go.Proofs.Ytjflmfmncepeeaa
