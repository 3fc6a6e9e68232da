/-
  Merged: Rgw Rgx Rgy.
-/
import Derived.Test.YtegfnlnbhhmkjaaDoorRB
import Derived.Test.YtegfnlnbhhmkjaaDoorRP
namespace Go.Proofs.YtegfnlnbhhmkjaaDoor
set_option maxRecDepth 100000
set_option linter.unusedVariables false
set_option linter.unusedSimpArgs false

def downs (up : Nat → Bool) (l : List Nat) : List Nat := l.dropWhile fun s => !up s
/-- One of the first ones: it, or the first other that is up. -/
def stStep (up : Nat → Bool) (st : List PrV × List Nat) (x : Nat) : List PrV × List Nat :=
  if up x = true then (st.1 ++ [⟨x, x⟩], st.2) else match downs up st.2 with
    | [] => st
    | s :: sp => (st.1 ++ [⟨s, x⟩], sp)
def stAll (up : Nat → Bool) (ws : List Nat) (n k : Nat) : List PrV × List Nat := (ws.take k).foldl (stStep up) ([], ws.drop n)
theorem stAll_succ {up : Nat → Bool} {ws : List Nat} {n k x : Nat} (h : ws.take (k + 1) = ws.take k ++ [x]) : stAll up ws n (k + 1) = stStep up (stAll up ws n k) x := by
  unfold stAll
  rw [h, List.foldl_append]
  rfl
theorem stAll_zero (up : Nat → Bool) (ws : List Nat) (n : Nat) : stAll up ws n 0 = ([], ws.drop n) := rfl
theorem step_up {up : Nat → Bool} {st : List PrV × List Nat} {x : Nat} (h : up x = true) : stStep up st x = (st.1 ++ [⟨x, x⟩], st.2) := by
  unfold stStep
  rw [if_pos h]
theorem step_none {up : Nat → Bool} {st : List PrV × List Nat} {x : Nat} (h : up x = false) (hd : downs up st.2 = []) : stStep up st x = st := by
  unfold stStep
  rw [if_neg (by rw [h]; decide), hd]
theorem step_some {up : Nat → Bool} {st : List PrV × List Nat} {x s : Nat} {sp : List Nat} (h : up x = false) (hd : downs up st.2 = s :: sp) : stStep up st x = (st.1 ++ [⟨s, x⟩], sp) := by
  unfold stStep
  rw [if_neg (by rw [h]; decide), hd]
theorem downs_cons_up {up : Nat → Bool} {s : Nat} {l : List Nat} (h : up s = true) : downs up (s :: l) = s :: l := by
  unfold downs
  rw [List.dropWhile_cons, if_neg (by simp [h])]
theorem downs_cons_down {up : Nat → Bool} {s : Nat} {l : List Nat} (h : up s = false) : downs up (s :: l) = downs up l := by
  unfold downs
  rw [List.dropWhile_cons, if_pos (by simp [h])]
theorem drop_getD {l : List Nat} {k : Nat} (h : k < l.length) : l.drop k = l.getD k 0 :: l.drop (k + 1) := by
  rw [List.drop_eq_getElem_cons h, List.getD_eq_getElem?_getD, List.getElem?_eq_getElem h]
  rfl
/-- The first that is up stands at i. -/
theorem downs_at {up : Nat → Bool} : ∀ {l : List Nat} {i : Nat}, i < l.length → (∀ j, j < i → up (l.getD j 0) = false) → up (l.getD i 0) = true → downs up l = l.getD i 0 :: l.drop (i + 1)
  | [], _, h, _, _ => absurd h (by simp)
  | a :: l, 0, _, _, h => downs_cons_up h
  | a :: l, i + 1, h, h1, h2 => by
    rw [downs_cons_down (show up a = false from h1 0 (by omega))]
    exact downs_at (l := l) (i := i) (by simpa using h) (fun j hj => h1 (j + 1) (by omega)) h2
theorem downs_none {up : Nat → Bool} : ∀ {l : List Nat}, (∀ j, j < l.length → up (l.getD j 0) = false) → downs up l = []
  | [], _ => rfl
  | a :: l, h => by
    rw [downs_cons_down (show up a = false from h 0 (by simp))]
    exact downs_none fun j hj => h (j + 1) (by simpa using hj)
theorem downs_suffix (up : Nat → Bool) (l : List Nat) : downs up l <:+ l := List.dropWhile_suffix _
theorem downs_up {up : Nat → Bool} : ∀ {l : List Nat} {s : Nat} {sp : List Nat}, downs up l = s :: sp → up s = true
  | a :: l, s, sp, h => by
    cases ha : up a with
    | true =>
      rw [downs_cons_up ha] at h
      injection h with h1 h2
      rw [← h1]
      exact ha
    | false =>
      rw [downs_cons_down ha] at h
      exact downs_up h
/-- Nobody stands in twice, all who do are up. -/
theorem stAll_good {up : Nat → Bool} {ws : List Nat} (hn : ws.Nodup) (n : Nat) : ∀ (k : Nat), k ≤ n → n ≤ ws.length →
    (((stAll up ws n k).1.map (·.p)) ++ ((ws.take n).drop k ++ (stAll up ws n k).2)).Nodup ∧ (∀ q ∈ (stAll up ws n k).1, up q.p = true) ∧ (∀ q ∈ (stAll up ws n k).1, q.p ∈ ws) ∧ (∀ q ∈ (stAll up ws n k).2, q ∈ ws) ∧ (stAll up ws n k).1.length ≤ k
  | 0, _, _ => by
    rw [stAll_zero]
    refine ⟨?_, fun q h => by simp at h, fun q h => by simp at h, fun q h => List.mem_of_mem_drop h, Nat.le_refl _⟩
    simpa using hn
  | k + 1, hk, hw => by
    obtain ⟨h1, h2, h4, h5, h6⟩ := stAll_good hn n k (by omega) hw
    have hlt : k < ws.length := by omega
    have ht : ws.take (k + 1) = ws.take k ++ [ws.getD k 0] := by
      rw [List.take_succ_eq_append_getElem hlt, List.getD_eq_getElem?_getD, List.getElem?_eq_getElem hlt]
      rfl
    have hd : (ws.take n).drop k = ws.getD k 0 :: (ws.take n).drop (k + 1) := by
      have h3 := drop_getD (l := ws.take n) (k := k) (by rw [List.length_take]; omega)
      rw [h3]
      congr 1
      rw [List.getD_eq_getElem?_getD, List.getElem?_take, if_pos (by omega), ← List.getD_eq_getElem?_getD]
    have hxw : ws.getD k 0 ∈ ws := by
      rw [List.getD_eq_getElem?_getD, List.getElem?_eq_getElem hlt]
      exact List.getElem_mem _
    rw [stAll_succ ht]
    rw [hd] at h1
    generalize ws.getD k 0 = x at *
    generalize (ws.take n).drop (k + 1) = R at *
    generalize stAll up ws n k = st at *
    obtain ⟨o, sp⟩ := st
    cases hu : up x with
    | true =>
      rw [step_up hu]
      refine ⟨?_, ?_, ?_, h5, by simp; omega⟩
      · simpa using h1
      · intro q hq
        rcases List.mem_append.1 hq with h | h
        · exact h2 q h
        · obtain rfl := List.mem_singleton.1 h
          exact hu
      · intro q hq
        rcases List.mem_append.1 hq with h | h
        · exact h4 q h
        · obtain rfl := List.mem_singleton.1 h
          exact hxw
    | false =>
      cases hdn : downs up sp with
      | nil =>
        rw [step_none hu hdn]
        refine ⟨?_, h2, h4, h5, by simp at h6 ⊢; omega⟩
        refine h1.sublist (List.Sublist.append_left ?_ _)
        exact List.sublist_cons_self _ _
      | cons s sp' =>
        rw [step_some hu hdn]
        have hsuf := downs_suffix up sp
        rw [hdn] at hsuf
        have hsw : s ∈ ws := h5 s (hsuf.subset (by simp))
        refine ⟨?_, ?_, ?_, fun q hq => h5 q (hsuf.subset (by simp [hq])), by simp at h6 ⊢; omega⟩
        · have h3 : (o.map (·.p) ++ (x :: R ++ (s :: sp'))).Nodup := h1.sublist (List.Sublist.append_left (List.Sublist.append_left hsuf.sublist _) _)
          have h7 : (o.map (·.p) ++ (R ++ (s :: sp'))).Nodup := h3.sublist (List.Sublist.append_left (List.sublist_cons_self _ _) _)
          have hp : List.Perm (o.map PrV.p ++ (R ++ (s :: sp'))) ((o ++ [(⟨s, x⟩ : PrV)]).map PrV.p ++ (R ++ sp')) := by
            rw [List.map_append, List.append_assoc]
            exact List.Perm.append_left _ List.perm_middle
          exact hp.nodup_iff.1 h7
        · intro q hq
          rcases List.mem_append.1 hq with h | h
          · exact h2 q h
          · obtain rfl := List.mem_singleton.1 h
            exact downs_up hdn
        · intro q hq
          rcases List.mem_append.1 hq with h | h
          · exact h4 q h
          · obtain rfl := List.mem_singleton.1 h
            exact hsw
end Go.Proofs.YtegfnlnbhhmkjaaDoor

namespace Go.Proofs.YtegfnlnbhhmkjaaDoor
set_option maxRecDepth 100000
open Go.ChangeShapes Go.WideShapes Go.ChangeAt Go.RowKit
set_option linter.unusedVariables false
set_option linter.unusedSimpArgs false

/-- What lies in the box of up. -/
def UpIs (w : World) (g : Nat) (ul : List Bool) : Prop := ∃ A c, Bk w g 24 #[.slice A ul.length c] ∧ RdW w w.heap.size A ul
theorem UpIs.below {w w' : World} {g : Nat} {L : List Bool} (h : UpIs w g L) (hb : Below w.heap.size w w') : UpIs w' g L := by
  obtain ⟨A, c, k, r⟩ := h
  exact ⟨A, c, k.below hb k.lt, (r.below hb).more hb.size⟩
def BolP (w : World) (b : Bool) (e : Ending) (w' : World) : Prop := e = .returned (.bool b) ∧ w = w'
set_option maxRecDepth 100000 in
set_option maxHeartbeats 1000000 in
theorem stand1_any (w : World) (g : Nat) (ul : List Bool) (h : UpIs w g ul) (s : Nat) (hs : s < ul.length) (h6 : ul.length ≤ 1000) :
    Calls Tryd.prog 20 #[.int .i64 (s : Int), .pointer (some ⟨g, 0, none⟩)] w (BolP w (ul.getD s false)) := by
  obtain ⟨A, c, hk, hr⟩ := h
  have k0 := (show w.cell? ⟨g, 0, none⟩ = some (.slice A ul.length c) from hk.cell 0)
  obtain ⟨b, off, rfl, hbl, hc⟩ := hr.at_ hs
  obtain ⟨n, hn⟩ : ∃ n, ul.length = n := ⟨_, rfl⟩
  rw [hn] at k0 hs h6
  have t0 : (s : Int) < (n : Int) := by omega
  generalize ul.getD s false = v at *
  clear hk hr hn
  go_enter Tryd.func20, Tryd.ntmps20
  go_wp2
  go_ret
  exact ⟨rfl, rfl⟩
def IfP (w : World) (up : Nat → Bool) (l : List Nat) (e : Ending) (w' : World) : Prop := ∃ z : Int, e = .returned (.int .i64 z) ∧ Below w.heap.size w w' ∧ ((z = -1 ∧ downs up l = []) ∨ (∃ i : Nat, z = (i : Int) ∧ i < l.length ∧ downs up l = l.getD i 0 :: l.drop (i + 1)))
def upF (ul : List Bool) (s : Nat) : Bool := ul.getD s false
set_option maxRecDepth 100000 in
set_option maxHeartbeats 2000000 in
theorem indexF_any (w : World) (g : Nat) (ul : List Bool) (h : UpIs w g ul) (h6 : ul.length ≤ 1000) (A : Option Addr) (n c : Nat) (l : List Nat) (hn : l.length = n) (hr : RdZ w w.heap.size A l) (hm : n ≤ 1000000) (hx : ∀ x ∈ l, x < ul.length) :
    Calls Tryd.prog 19 #[.slice A n c, .func (.func 20) #[] #[.pointer (some ⟨g, 0, none⟩)]] w (IfP w (upF ul) l) := by
  have HN := hidrg_ hn
  have HR := hidrg_ hr
  have HU := hidrg_ h
  have HX := hidrg_ hx
  clear hn hr h hx
  go_enter Tryd.func19, Tryd.ntmps19
  go_wp2
  go_loopw [8] (fun i wr => ∃ (k : Nat), i = .int .i64 k ∧ k ≤ n ∧ Hid (Below w.heap.size w wr) ∧ Hid (∀ j, j < k → upF ul (l.getD j 0) = false)) (fun i _ => n - (intOf i).toNat)
  case atStart => exact ⟨0, rfl, Nat.zero_le _, hidrg_ (Below.refl _ _), hidrg_ (fun j h => absurd h (by omega))⟩
  case round =>
    obtain ⟨k, rfl, hk, HB, H1⟩ := hrel
    by_cases hlt : k < n
    · have tl : (k : Int) < (n : Int) := by omega
      obtain ⟨b, off, rfl, hbl, hc⟩ := (HR.out.below HB.out).at_ (k := k) (by rw [HN.out]; exact hlt)
      obtain ⟨z, hz, hzm, hzt⟩ := getD_of (l := l) (k := k) (by rw [HN.out]; exact hlt)
      rw [hz] at hc
      have cs := stand1_any wr g ul (HU.out.below HB.out) z (HX.out z hzm) h6
      have HZ := hidrg_ hz
      obtain ⟨v, hv⟩ : ∃ v, ul.getD z false = v := ⟨_, rfl⟩
      rw [hv] at cs
      have HV := hidrg_ (show upF ul (l.getD k 0) = v by rw [HZ.out]; exact hv)
      clear hz hzm hzt hv
      cases v with
      | true =>
        go_wp2_with (go_at_call 20; ((with_reducible refine cs.mono ?_); clear cs; rintro e w2 ⟨rfl, rfl⟩))
        go_ret
        exact ⟨(k : Int), rfl, HB.out, .inr ⟨k, rfl, by rw [HN.out]; exact hlt, downs_at (by rw [HN.out]; exact hlt) H1.out HV.out⟩⟩
      | false =>
        go_wp2_with (go_at_call 20; ((with_reducible refine cs.mono ?_); clear cs; rintro e w2 ⟨rfl, rfl⟩))
        go_roundw
        case rel => exact ⟨k + 1, by go_num, by omega, HB, hidrg_ (fun j hj => by
          rcases Nat.lt_or_ge j k with h | h
          · exact H1.out j h
          · obtain rfl : j = k := by omega
            exact HV.out)⟩
        case measure => simp [intOf]; omega
    · have tl : ¬ (k : Int) < (n : Int) := by omega
      have HE := hidrg_ (show k = n by omega)
      go_wp2
      go_ret
      exact ⟨-1, rfl, HB.out, .inl ⟨rfl, downs_none (fun j hj => H1.out j (by rw [HE.out, ← HN.out]; exact hj))⟩⟩
end Go.Proofs.YtegfnlnbhhmkjaaDoor

namespace Go.Proofs.YtegfnlnbhhmkjaaDoor
set_option maxRecDepth 100000
open Go.ChangeShapes Go.WideShapes Go.ChangeAt Go.RowKit
set_option linter.unusedVariables false
set_option linter.unusedSimpArgs false

theorem sliceZ_from (A : Option Addr) (n c : Nat) (z : Int) (k : Nat) (hz : z = (k : Int)) (hk : k ≤ n) (W : World) :
    (Instr.slice 25 (.slice A n c) (some (.int .i64 z)) none none).run Tryd.prog W = .ok (.slice (if c = k then A else A.map (·.add k)) (n - k) (c - k)) W := by
  subst hz
  have he : Tryd.prog.elem 25 = 3 := by kernel_rfl
  rw [run_slice_l W 25 A n c (by rw [he]; exact Tryd.underlying25) .i64 k (by omega) (by omega)]
  have hs : (sizeOf (Tryd.prog.elem 25)).run Tryd.prog W = .ok 1 W := by
    rw [he]
    obtain ⟨i, hi, hz, hsize, hby⟩ := info_parts infoZ
    simp [sizeOf, typeInfo, hi, hsize]
  rw [hs]
  simp only [Result.andThen, sliced, Int.toNat_natCast, Nat.mul_one]
theorem rdz_from {w : World} {B : Nat} {A : Option Addr} {l : List Nat} (h : RdZ w B A l) (c k : Nat) (hk : k ≤ l.length) (hc : l.length ≤ c) : RdZ w B (if c = k then A else A.map (·.add k)) (l.drop k) := by
  by_cases hck : c = k
  · rw [if_pos hck]
    have : l.drop k = [] := List.drop_eq_nil_of_le (by omega)
    rw [this]
    exact RdZ.nil
  · rw [if_neg hck]
    intro hn
    have hl : 0 < l.length := by simp at hn; omega
    obtain ⟨b, off, e, _⟩ := h hl
    subst e
    have h2 := h.drop k hn
    simp only [Option.map_some]
    have hp : (⟨b, off, none⟩ : Addr).add k = ⟨b, off + k, none⟩ := by unfold Addr.add; split <;> simp_all
    rw [hp]
    exact h2
theorem rde_one (w : World) (x y : Nat) : RdE (w.alloc (.cells #[.int .i64 (x : Int), .int .i64 (y : Int)] 38)) (w.alloc (.cells #[.int .i64 (x : Int), .int .i64 (y : Int)] 38)).heap.size (some ⟨w.heap.size, 0, none⟩) [⟨x, y⟩] := fun _ =>
  ⟨_, 0, rfl, by simp, fun j hj => by
    have : j = 0 := by simpa using hj
    subst this
    exact ⟨World.cell?_alloc_mark w #[.int .i64 (x : Int), .int .i64 (y : Int)] 38 _ 0, World.cell?_alloc_mark w #[.int .i64 (x : Int), .int .i64 (y : Int)] 38 _ 1⟩⟩
def StP (w : World) (l : List PrV) (e : Ending) (w' : World) : Prop := ∃ A c, e = .returned (.tuple #[.slice A l.length c, .int .i64 0]) ∧ RdE w' w'.heap.size A l ∧ Below w.heap.size w w'
theorem stAll_len {up : Nat → Bool} {ws : List Nat} (n : Nat) : ∀ (k : Nat), k ≤ ws.length → (stAll up ws n k).1.length ≤ k
  | 0, _ => Nat.le_refl _
  | k + 1, hk => by
    have h := stAll_len (up := up) (ws := ws) n k (by omega)
    obtain ⟨x, _, _, ht⟩ := getD_of (l := ws) (k := k) (by omega)
    rw [stAll_succ ht]
    cases hu : up x with
    | true => rw [step_up hu]; simp; omega
    | false =>
      cases hd : downs up (stAll up ws n k).2 with
      | nil => rw [step_none hu hd]; omega
      | cons s sp => rw [step_some hu hd]; simp; omega
set_option maxRecDepth 100000 in
set_option maxHeartbeats 8000000 in
theorem OwnE.lowerE {w : World} {base b' : Nat} {v : Value} {l : List PrV} (h : OwnE w base v l) (hb : b' ≤ base) : OwnE w b' v l := by
  refine ⟨h.1, ?_⟩
  rcases h.2 with hn | ⟨g, cap, cur, rfl, hb2, rest⟩
  · exact .inl hn
  · exact .inr ⟨g, cap, cur, rfl, by omega, rest⟩
def StO (w : World) (l : List PrV) (e : Ending) (w' : World) : Prop := ∃ A c, e = .returned (.tuple #[.slice A l.length c, .int .i64 0]) ∧ OwnE w' w.heap.size (.slice A l.length c) l ∧ Below w.heap.size w w'
set_option maxRecDepth 100000 in
set_option maxHeartbeats 8000000 in
theorem stand_own (w : World) (g : Nat) (L : List PtV) (hr : RingIs w g L) (hs : Srt ltP L) (hm : L.length ≤ 1000000) (K : List UInt8) (hK : K.length = 32) (ws : List Nat) (hws : walkV (plB K) L = ws) (n : Nat) (h1 : 1 ≤ n) (hn : n ≤ ws.length) (h8 : ws.length ≤ 8)
    (Au : Option Addr) (q cu : Nat) (ul : List Bool) (hul : ul.length = q) (hq : q = ws.length) (hru : RdW w w.heap.size Au ul) (hx : ∀ x ∈ ws, x < ws.length) :
    Calls Tryd.prog 7 #[.pointer (some ⟨g, 0, none⟩), .agg (rowOf K), .int .i64 (n : Int), .slice Au q cu] w (StO w (stAll (upF ul) ws n n).1) := by
  obtain ⟨gk, hgk⟩ : ∃ g, w.heap.size = g := ⟨_, rfl⟩
  obtain ⟨w0, hw0⟩ : ∃ W, w.alloc (.cells (rowOf K) 23) = W := ⟨_, rfl⟩
  have b0 : Below w.heap.size w w0 := by rw [← hw0]; exact (Below.refl _ _).alloc (Nat.le_refl _) _
  have k0 : Bk w0 gk 23 (rowOf K) := by rw [← hw0, ← hgk]; exact Bk.new w _ _
  obtain ⟨gu, hgu⟩ : ∃ g, w0.heap.size = g := ⟨_, rfl⟩
  obtain ⟨w1, hw1⟩ : ∃ W, w0.alloc (.cells #[.slice Au q cu] 24) = W := ⟨_, rfl⟩
  have B1 := hidrg_ (show Below w.heap.size w w1 by rw [← hw1]; exact b0.alloc b0.size _)
  have K1 := hidrg_ (show Bk w1 gk 23 (rowOf K) by rw [← hw1]; exact k0.alloc _)
  have U1 := hidrg_ (show Bk w1 gu 24 #[.slice Au q cu] by rw [← hw1, ← hgu]; exact Bk.new w0 _ _)
  have R1 := hidrg_ ((hru.below B1.out).more B1.out.size)
  have KL := hidrg_ (iBlind K hK)
  have cw := walk_any w1 g L (hr.below B1.out) hs hm K hK
  rw [hws] at cw
  obtain ⟨m, hwm⟩ : ∃ m, ws.length = m := ⟨_, rfl⟩
  unfold NewZ at cw
  rw [hwm] at cw hn h8 hq
  subst hq
  have HM := hidrg_ hwm
  have HU := hidrg_ hul
  have HX := hidrg_ (show ∀ x ∈ ws, x < q from fun x h => by rw [← hwm]; exact hx x h)
  have t1 : ¬ (n : Int) < 1 := by omega
  have t2 : ¬ (q : Int) < (n : Int) := by omega
  have td1 : decide ((n : Int) < 1) = false := decide_eq_false t1
  have td2 : decide ((q : Int) < (n : Int)) = false := decide_eq_false t2
  have td3 : decide (q < n) = false := decide_eq_false (by omega)
  have td4 : decide (n < 1) = false := decide_eq_false (by omega)
  clear b0 k0 hr hs hm hK hws hru hx hwm hul
  go_enter Tryd.func7, Tryd.ntmps7
  go_upto_region 2 with (first
    | (refine wpList_load_row rfl 23 (.tmp 5) rfl gk rfl 23 (rowOf K) (0, 0) _ K1.out Tryd.underlying23 rfl KL.out ?_)
    | (go_at_call 18; ((with_reducible refine cw.mono ?_); clear cw; rintro e w3 ⟨A, c, rfl, ho, hb⟩; have CAP := OwnZ.cap ho; have B3 := hidrg_ (B1.out.trans (hb.mono B1.out.size)); have U3 := hidrg_ (U1.out.below hb U1.out.lt); have R3 := hidrg_ ((R1.out.below hb).more hb.size); have Z3 := hidrg_ ho.rd.1; clear ho hb)))
  clear B1 K1 U1 R1 KL hgk hgu
  have ku := (show w3.cell? ⟨gu, 0, none⟩ = some (.slice Au q cu) from U3.out.cell 0)
  have sf := sliceZ_from A q c (n : Int) n rfl hn
  have st0 := sliceZ_to A q c (n : Int) n rfl (by omega)
  obtain ⟨S0, hS0⟩ : ∃ S, (if c = n then A else A.map (·.add n)) = S := ⟨_, rfl⟩
  have ZS := hidrg_ (show RdZ w3 w3.heap.size S0 (ws.drop n) by rw [← hS0]; exact rdz_from Z3.out c n (by rw [HM.out]; exact hn) (by rw [HM.out]; exact CAP.1))
  rw [hS0] at sf
  obtain ⟨m0, hm0⟩ : ∃ m, q - n = m := ⟨_, rfl⟩
  obtain ⟨c0, hc0⟩ : ∃ m, c - n = m := ⟨_, rfl⟩
  rw [hm0, hc0] at sf
  have HM0 := hidrg_ (show (ws.drop n).length = m0 by rw [List.length_drop, HM.out]; exact hm0)
  have HC0 := hidrg_ (show m0 ≤ c0 ∧ c0 ≤ 9223372036854775807 by omega)
  clear hS0 hm0 hc0
  go_wp2
  clear t1 t2 td1 td2 td3 td4 ku sf st0
  go_loopw [41, 11, 12] (fun i o f wr => ∃ (k : Nat) (A1 : Option Addr) (p c1 : Nat) (S : Option Addr) (m cs : Nat), i = .int .i64 k ∧ k ≤ n ∧ o = .slice A1 p c1 ∧ f = .slice S m cs ∧ Hid ((stAll (upF ul) ws n k).1.length = p) ∧ Hid ((stAll (upF ul) ws n k).2.length = m) ∧ Hid (m ≤ 8 ∧ m ≤ cs ∧ cs ≤ 9223372036854775807) ∧ Hid (OwnE wr w3.heap.size (.slice A1 p c1) (stAll (upF ul) ws n k).1) ∧ Hid (RdZ w3 w3.heap.size S (stAll (upF ul) ws n k).2) ∧ Hid (∀ s ∈ (stAll (upF ul) ws n k).2, s < q) ∧ Hid (Below w3.heap.size w3 wr)) (fun i _ _ _ => n - (intOf i).toNat)
  case atStart => exact ⟨0, none, 0, 0, S0, m0, c0, rfl, Nat.zero_le _, rfl, rfl, hidrg_ rfl, HM0, hidrg_ ⟨by have := HM0.out; rw [List.length_drop, HM.out] at this; omega, HC0.out⟩, hidrg_ (OwnE.nil_ _ _), ZS, hidrg_ (fun s h => HX.out s (List.mem_of_mem_drop h)), hidrg_ (Below.refl _ _)⟩
  case round =>
    clear ZS HM0 HC0
    obtain ⟨k, A1, p, c1, S, m, cs, rfl, hk, rfl, rfl, HP, HS2, HCS, HO, HSP, HSQ, HB⟩ := hrel
    by_cases hlt : k < n
    · have tl : (k : Int) < (n : Int) := by omega
      have hp9 : p ≤ 8 := by
        have := stAll_len (up := upF ul) (ws := ws) n k (by rw [HM.out]; omega)
        rw [HP.out] at this
        omega
      obtain ⟨x, hx0, hxm, hxt⟩ := getD_of (l := ws) (k := k) (by rw [HM.out]; omega)
      have hxq := HX.out x hxm
      have txq : (x : Int) < (q : Int) := by omega
      have HST := hidrg_ (stAll_succ (up := upF ul) (n := n) hxt)
      obtain ⟨b, off, rfl, hbl, hc⟩ := (Z3.out.below HB.out).at_ (k := k) (by rw [HM.out]; omega)
      rw [hx0] at hc
      have ku := (HB.out.cell (p := ⟨gu, 0, none⟩) U3.out.lt).trans (show w3.cell? ⟨gu, 0, none⟩ = some (.slice Au q cu) from U3.out.cell 0)
      obtain ⟨bu, ou, rfl, hbu, hcu⟩ := (R3.out.below HB.out).at_ (k := x) (by rw [HU.out]; exact hxq)
      obtain ⟨st, hst⟩ : ∃ st, stAll (upF ul) ws n k = st := ⟨_, rfl⟩
      rw [hst] at HP HS2 HO HSP HSQ HST
      obtain ⟨v, hv⟩ : ∃ v, ul.getD x false = v := ⟨_, rfl⟩
      have HV := hidrg_ (show upF ul x = v from hv)
      rw [hv] at hcu
      clear hx0 hxm hxt hst hv
      cases v with
      | true =>
        have HN := hidrg_ (show stAll (upF ul) ws n (k + 1) = (st.1 ++ [⟨x, x⟩], st.2) by rw [HST.out, step_up HV.out])
        have O5 := hidrg_ (HO.out.alloc (.cells #[.int .i64 (x : Int), .int .i64 (x : Int)] 38))
        have RY := hidrg_ (rde_one wr x x)
        have hl1 : st.1.length + 1 ≤ 1000000 := by rw [HP.out]; omega
        have hb1 : w3.heap.size ≤ (wr.alloc (.cells #[.int .i64 (x : Int), .int .i64 (x : Int)] 38)).heap.size := by simp; have := HB.out.size; omega
        go_wp2_with (at_builtin; refine wpList_appEE rfl (.tmp 49) (.tmp 53) rfl O5.out rfl 1 1 rfl RY.out rfl hl1 hb1 ?_; intro A6 c6 w6 q1 q2 q3; rw [HP.out] at q1 q3 ⊢; have O6 := hidrg_ q1; have BA := HB.out.alloc HB.out.size (.cells #[.int .i64 (x : Int), .int .i64 (x : Int)] 38); have B6 := hidrg_ (BA.grown q2 BA.size (fun k hk => (World.ownsRow.lt O5.out k hk).1)); clear q1 q2 q3 BA)
        go_roundw
        case rel => exact ⟨k + 1, A6, p + 1, c6, S, m, cs, by go_num, by omega, rfl, rfl, hidrg_ (by rw [HN.out, List.length_append, HP.out]; rfl), hidrg_ (by rw [HN.out]; exact HS2.out), HCS, hidrg_ (by rw [HN.out]; exact O6.out), hidrg_ (by rw [HN.out]; exact HSP.out), hidrg_ (by rw [HN.out]; exact HSQ.out), B6⟩
        case measure => simp [intOf]; omega
      | false =>
        have hm8 := HCS.out
        have cf := indexF_any wr gu ul ⟨_, cu, by rw [HU.out]; exact U3.out.below HB.out U3.out.lt, ((R3.out.below HB.out).more HB.out.size)⟩ (by rw [HU.out]; omega) S m cs st.2 HS2.out ((HSP.out.below HB.out).more HB.out.size) (by omega) (fun s h => by rw [HU.out]; exact HSQ.out s h)
        go_upto_region 12 with (go_at_call 19; ((with_reducible refine cf.mono ?_); clear cf; rintro e w5 ⟨z, rfl, hb, hor⟩; have B5 := hidrg_ (HB.out.trans (hb.mono HB.out.size)); have O5 := hidrg_ (HO.out.below hb (Nat.le_refl _)); have HOR := hidrg_ hor; clear hb hor))
        clear ku hcu
        rcases HOR.out with ⟨rfl, hd⟩ | ⟨i, rfl, hi, hd⟩
        · clear HOR
          have HN := hidrg_ (show stAll (upF ul) ws n (k + 1) = st by rw [HST.out, step_none HV.out hd])
          clear hd
          go_wp2
          go_roundw
          case rel => exact ⟨k + 1, A1, p, c1, S, m, cs, by go_num, by omega, rfl, rfl, hidrg_ (by rw [HN.out]; exact HP.out), hidrg_ (by rw [HN.out]; exact HS2.out), HCS, hidrg_ (by rw [HN.out]; exact O5.out), hidrg_ (by rw [HN.out]; exact HSP.out), hidrg_ (by rw [HN.out]; exact HSQ.out), B5⟩
          case measure => simp [intOf]; omega
        · clear HOR
          have HN := hidrg_ (show stAll (upF ul) ws n (k + 1) = (st.1 ++ [⟨st.2.getD i 0, x⟩], st.2.drop (i + 1)) by rw [HST.out, step_some HV.out hd])
          have him : i < m := by have := HS2.out; omega
          have ti : 0 ≤ (i : Int) := by omega
          have tm : (i : Int) < (m : Int) := by omega
          have wi : IntKind.i64.wrap ((i : Int) + 1) = (i : Int) + 1 := IntWalk.i64_in _ (by omega)
          have sf := fun W => sliceZ_from S m cs ((i : Int) + 1) (i + 1) rfl (by omega) W
          obtain ⟨S2, hS2⟩ : ∃ S', (if cs = i + 1 then S else S.map (·.add (i + 1))) = S' := ⟨_, rfl⟩
          have SP2 := hidrg_ (show RdZ w3 w3.heap.size S2 (st.2.drop (i + 1)) by rw [← hS2]; exact rdz_from HSP.out cs (i + 1) (by rw [HS2.out]; omega) (by rw [HS2.out]; omega))
          rw [hS2] at sf
          obtain ⟨m2, hm2⟩ : ∃ m', m - (i + 1) = m' := ⟨_, rfl⟩
          obtain ⟨c2, hc2⟩ : ∃ m', cs - (i + 1) = m' := ⟨_, rfl⟩
          rw [hm2, hc2] at sf
          have HM2 := hidrg_ (show (st.2.drop (i + 1)).length = m2 by rw [List.length_drop, HS2.out]; exact hm2)
          have HC2 := hidrg_ (show m2 ≤ 8 ∧ m2 ≤ c2 ∧ c2 ≤ 9223372036854775807 by omega)
          obtain ⟨b2, o2, rfl, hb2, hc3⟩ := (HSP.out.below B5.out).at_ (k := i) hi
          obtain ⟨s, hs⟩ : ∃ s, st.2.getD i 0 = s := ⟨_, rfl⟩
          rw [hs] at hc3 HN
          have O6 := hidrg_ (O5.out.alloc (.cells #[.int .i64 (s : Int), .int .i64 (x : Int)] 38))
          have RY := hidrg_ (rde_one w5 s x)
          have hl1 : st.1.length + 1 ≤ 1000000 := by rw [HP.out]; omega
          have hb1 : w3.heap.size ≤ (w5.alloc (.cells #[.int .i64 (s : Int), .int .i64 (x : Int)] 38)).heap.size := by simp; have := B5.out.size; omega
          clear hd hS2 hm2 hc2 hs
          go_wp2_with (at_builtin; refine wpList_appEE rfl (.tmp 60) (.tmp 67) rfl O6.out rfl 1 1 rfl RY.out rfl hl1 hb1 ?_; intro A6 c6 w6 q1 q2 q3; rw [HP.out] at q1 q3 ⊢; have O7 := hidrg_ q1; have BA := B5.out.alloc B5.out.size (.cells #[.int .i64 (s : Int), .int .i64 (x : Int)] 38); have B6 := hidrg_ (BA.grown q2 BA.size (fun k hk => (World.ownsRow.lt O6.out k hk).1)); clear q1 q2 q3 BA)
          go_roundw
          case rel => exact ⟨k + 1, A6, p + 1, c6, S2, m2, c2, by go_num, by omega, rfl, rfl, hidrg_ (by rw [HN.out, List.length_append, HP.out]; rfl), hidrg_ (by rw [HN.out]; exact HM2.out), HC2, hidrg_ (by rw [HN.out]; exact O7.out), hidrg_ (by rw [HN.out]; exact SP2.out), hidrg_ (by rw [HN.out]; exact fun s h => HSQ.out s (List.mem_of_mem_drop h)), B6⟩
          case measure => simp [intOf]; omega
    · have tl : ¬ (k : Int) < (n : Int) := by omega
      obtain rfl : k = n := by omega
      go_wp2
      go_ret2
      refine ⟨A1, c1, ?_, ?_, B3.out.trans (HB.out.mono B3.out.size)⟩
      · rw [HP.out]
        rfl
      · rw [HP.out]
        exact HO.out.lowerE B3.out.size
theorem stand_any (w : World) (g : Nat) (L : List PtV) (hr : RingIs w g L) (hs : Srt ltP L) (hm : L.length ≤ 1000000) (K : List UInt8) (hK : K.length = 32) (ws : List Nat) (hws : walkV (plB K) L = ws) (n : Nat) (h1 : 1 ≤ n) (hn : n ≤ ws.length) (h8 : ws.length ≤ 8)
    (Au : Option Addr) (q cu : Nat) (ul : List Bool) (hul : ul.length = q) (hq : q = ws.length) (hru : RdW w w.heap.size Au ul) (hx : ∀ x ∈ ws, x < ws.length) :
    Calls Tryd.prog 7 #[.pointer (some ⟨g, 0, none⟩), .agg (rowOf K), .int .i64 (n : Int), .slice Au q cu] w (StP w (stAll (upF ul) ws n n).1) :=
  (stand_own w g L hr hs hm K hK ws hws n h1 hn h8 Au q cu ul hul hq hru hx).mono fun e w' ⟨A, c, h1, h2, h3⟩ => ⟨A, c, h1, h2.rd.1, h3⟩
end Go.Proofs.YtegfnlnbhhmkjaaDoor
