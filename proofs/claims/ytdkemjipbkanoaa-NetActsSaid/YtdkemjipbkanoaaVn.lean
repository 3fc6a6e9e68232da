/-
  The reference's net: DocTake.
-/
import Derived.Test.YtdkemjipbkanoaaVm
namespace Go.Proofs.Ytdkemjipbkanoaa
open Go.RowKit
set_option linter.unusedVariables false
set_option linter.unusedSimpArgs false

/-- A load comes ahead of the slice that is cut out of it. -/
structure ChJ (D : Nat → Bool) : Prop where
  c1 : D 14 = true → D 12 = true
  c2 : D 25 = true → D 22 = true
theorem ChJ.step {D : Nat → Bool} (h : ChJ D) (i : Nat) (h14 : i = 14 → D 12 = true) (h25 : i = 25 → D 22 = true) : ChJ (fun j => decide (j = i) || D j) := by
  refine ⟨fun hx => ?_, fun hx => ?_⟩
  · by_cases e : 14 = i
    · exact or_true_of (h14 e.symm)
    · rw [orf_ne e] at hx
      exact or_true_of (h.c1 hx)
  · by_cases e : 25 = i
    · exact or_true_of (h25 e.symm)
    · rw [orf_ne e] at hx
      exact or_true_of (h.c2 hx)
theorem ChJ.n14 {D : Nat → Bool} (h : ChJ D) (h12 : D 12 = false) : D 14 = false := by
  cases hF : D 14 with
  | false => rfl
  | true => rw [h.c1 hF] at h12; cases h12
theorem ChJ.n25 {D : Nat → Bool} (h : ChJ D) (h22 : D 22 = false) : D 25 = false := by
  cases hF : D 25 with
  | false => rfl
  | true => rw [h.c2 hF] at h22; cases h22
structure TkJ (w : World) (Fin bp : World → Prop) (l1 l2 : List (List UInt8)) (D : Nat → Bool) (a : Act) (W : World) : Prop where
  ap : ApJ w Fin bp 5 42 15 52 99 999 26 63 28 [14] [25] l1 l2 [] D a W
  ch : ChJ D
theorem TkJ.same {w W : World} {Fin bp : World → Prop} {l1 l2 : List (List UInt8)} {D : Nat → Bool} {a : Act} (h : TkJ w Fin bp l1 l2 D a W) (i d : Nat) (v : Value) (hi : 5 ≠ i ∧ 15 ≠ i ∧ 99 ≠ i ∧ 26 ≠ i ∧ 28 ≠ i) (hd : some d ≠ some 42 ∧ some d ≠ some 52 ∧ some d ≠ some 999 ∧ some d ≠ some 63) (hc : i ≠ 14 ∧ i ≠ 25) :
    TkJ w Fin bp l1 l2 (fun j => decide (j = i) || D j) (a.put (some d) v) W := ⟨h.ap.same i d v hi hd, h.ch.step i (fun e => absurd e hc.1) (fun e => absurd e hc.2)⟩
/-- What the operations of the line of DocTake that takes a message away leave. -/
def TkR (p q n k g r c o d : Nat) (t1 t2 : List (List UInt8)) : Nat → Value → Prop
  | 0, v => v = .pointer (some ⟨p, 0, none⟩)
  | 1, v => v = .pointer (some ⟨p, 0, none⟩)
  | 2, v => v = .pointer (some ⟨p, 0, none⟩)
  | 3, v => v = .slice (some ⟨q, 0, none⟩) n n
  | 4, v => v = .int .i64 (k : Int)
  | 6, v => v = .pointer (some ⟨p, 0, none⟩)
  | 7, v => v = .pointer (some ⟨p, 0, none⟩)
  | 8, v => v = .pointer (some ⟨p, 0, none⟩)
  | 9, v => v = .slice (some ⟨q, 0, none⟩) n n
  | 10, v => v = .int .i64 (k : Int)
  | 11, v => v = .pointer (some ⟨q, k, none⟩)
  | 12, v => v = .slice (some ⟨g, 0, none⟩) r c
  | 13, v => v = .int .i64 (t1.length : Int)
  | 14, v => v = .slice (some ⟨g, 0, none⟩) t1.length c
  | 16, v => v = .pointer (some ⟨p, 0, none⟩)
  | 17, v => v = .pointer (some ⟨p, 0, none⟩)
  | 18, v => v = .pointer (some ⟨p, 0, none⟩)
  | 19, v => v = .slice (some ⟨q, 0, none⟩) n n
  | 20, v => v = .int .i64 (k : Int)
  | 21, v => v = .pointer (some ⟨q, k, none⟩)
  | 22, v => v = .slice (some ⟨g, 0, none⟩) r c
  | 23, v => v = .int .i64 (t1.length : Int)
  | 24, v => v = .int .i64 ((t1.length : Int) + 1)
  | 25, v => v = .slice (some ⟨g, o, none⟩) t2.length d
  | 27, v => v = .pointer (some ⟨q, k, none⟩)
  | _, _ => True
/-- What holds of the operations of DocTake's line that keeps a message as taken. -/
structure SeJ (wz : World) (Fin bp : World → Prop) (s k yn : Nat) (x : List UInt8) (D : Nat → Bool) (a : Act) (W : World) : Prop where
  pr : bp W
  bel : D 14 = false → Below wz.heap.size wz W
  ex : D 13 = true → D 14 = false → ∃ g, a.tmps.getD 78 undef = .slice (some ⟨g, 0, none⟩) 1 1 ∧ W.cell? ⟨g, 0, none⟩ = some (.string (strOf x))
  e2 : D 14 = true → D 16 = false → ∃ A c v, a.tmps.getD 79 undef = .slice A (yn + 1) c ∧ Fin (W.setCell ⟨s, k, none⟩ (.slice A (yn + 1) c)) ∧ bp (W.setCell ⟨s, k, none⟩ (.slice A (yn + 1) c)) ∧ W.cell? ⟨s, k, none⟩ = some v ∧ W.frozen? ⟨s, k, none⟩ = false
  o14 : D 14 = true → D 13 = true ∧ D 11 = true
  oF : D 16 = true → D 14 = true
  fin : D 16 = true → Fin W
section
variable {wz W W' : World} {Fin bp : World → Prop} {s k yn : Nat} {x : List UInt8} {D : Nat → Bool} {a : Act}
theorem SeJ.same (h : SeJ wz Fin bp s k yn x D a W) (i d : Nat) (v : Value) (hi : 13 ≠ i ∧ 14 ≠ i ∧ 16 ≠ i) (hd : some d ≠ some 78 ∧ some d ≠ some 79) : SeJ wz Fin bp s k yn x (fun j => decide (j = i) || D j) (a.put (some d) v) W := by
  have e3 := orf_ne (L := D) hi.1
  have e4 := orf_ne (L := D) hi.2.1
  have e6 := orf_ne (L := D) hi.2.2
  have s0 := put_getD_ne a (some d) v 78 hd.1
  have s1 := put_getD_ne a (some d) v 79 hd.2
  obtain ⟨a1, a2, a3, a4, a5, a6, a7⟩ := h
  refine ⟨?_, ?_, ?_, ?_, ?_, ?_, ?_⟩ <;> try simp only [e3, e4, e6, s0, s1]
  · exact a1
  · exact a2
  · exact a3
  · exact a4
  · exact fun h => ⟨(a5 h).1, or_true_of (a5 h).2⟩
  · exact a6
  · exact a7
theorem SeJ.open14 (h : SeJ wz Fin bp s k yn x D a W) (h1 : D 11 = false ∨ D 13 = false) : D 14 = false := by
  cases hF : D 14 with
  | false => rfl
  | true =>
    have := h.o14 hF
    rcases h1 with e | e
    · rw [this.2] at e; cases e
    · rw [this.1] at e; cases e
theorem SeJ.open16 (h : SeJ wz Fin bp s k yn x D a W) (h1 : D 14 = false) : D 16 = false := by
  cases hF : D 16 with
  | false => rfl
  | true => rw [h.oF hF] at h1; cases h1
theorem SeJ.one (h : SeJ wz Fin bp s k yn x D a W) (hL : D 13 = false) (hsz : 78 < a.tmps.size) (hbp : ∀ W', Below W.heap.size W W' → bp W → bp W') :
    SeJ wz Fin bp s k yn x (fun j => decide (j = 13) || D j) (a.put (some 78) (.slice (some ⟨W.heap.size, 0, none⟩) 1 1)) (W.alloc (.cells #[.string (strOf x)] 9)) := by
  have h4 := h.open14 (.inr hL)
  have h6 := h.open16 h4
  have hb := h.bel h4
  have hba : Below W.heap.size W (W.alloc (.cells #[.string (strOf x)] 9)) := (Below.refl _ _).alloc (Nat.le_refl _) _
  have e4 := (orf_ne (L := D) (show 14 ≠ 13 by omega)).trans h4
  have e6 := (orf_ne (L := D) (show 16 ≠ 13 by omega)).trans h6
  have s0 := put_getD_eq a (.slice (some ⟨W.heap.size, 0, none⟩) 1 1) 78 hsz
  obtain ⟨a1, a2, a3, a4, a5, a6, a7⟩ := h
  refine ⟨hbp _ hba a1, ?_, ?_, ?_, ?_, ?_, ?_⟩ <;> try simp only [e4, e6, s0]
  · exact fun _ => hb.trans (hba.mono hb.size)
  · exact fun _ _ => ⟨_, rfl, World.cell?_alloc_mark _ _ _ _ _⟩
  · exact fun h => (by cases h)
  · exact fun h => (by cases h)
  · exact fun h => (by cases h)
  · exact fun h => (by cases h)
theorem SeJ.app (h : SeJ wz Fin bp s k yn x D a W) (hL : D 14 = false) (h13 : D 13 = true) (h11 : D 11 = true) (hsz : 79 < a.tmps.size) (hbp : bp W') (A : Option Addr) (c : Nat) (v : Value)
    (hf : Fin (W'.setCell ⟨s, k, none⟩ (.slice A (yn + 1) c))) (hfp : bp (W'.setCell ⟨s, k, none⟩ (.slice A (yn + 1) c))) (hc : W'.cell? ⟨s, k, none⟩ = some v) (hz : W'.frozen? ⟨s, k, none⟩ = false) :
    SeJ wz Fin bp s k yn x (fun j => decide (j = 14) || D j) (a.put (some 79) (.slice A (yn + 1) c)) W' := by
  have h6 := h.open16 hL
  have e4 : (decide (14 = 14) || D 14) = true := by simp
  have e6 := (orf_ne (L := D) (show 16 ≠ 14 by omega)).trans h6
  have s1 := put_getD_eq a (.slice A (yn + 1) c) 79 hsz
  refine ⟨hbp, ?_, ?_, ?_, ?_, ?_, ?_⟩ <;> try simp only [e4, e6, s1]
  · exact fun h => (by cases h)
  · exact fun _ h => (by cases h)
  · exact fun _ _ => ⟨A, c, v, rfl, hf, hfp, hc, hz⟩
  · exact fun _ => ⟨or_true_of h13, or_true_of h11⟩
  · exact fun h => (by cases h)
  · exact fun h => (by cases h)
theorem SeJ.store (h : SeJ wz Fin bp s k yn x D a W) (h14 : D 14 = true) (hbp : bp W') (hf : Fin W') : SeJ wz Fin bp s k yn x (fun j => decide (j = 16) || D j) (a.put none undef) W' := by
  have hh := h.o14 h14
  have e6 : (decide (16 = 16) || D 16) = true := by simp
  have e4 := (orf_ne (L := D) (show 14 ≠ 16 by omega)).trans h14
  refine ⟨hbp, ?_, ?_, ?_, ?_, ?_, ?_⟩ <;> try simp only [e4, e6]
  · exact fun h => (by cases h)
  · exact fun _ h => (by cases h)
  · exact fun _ h => (by cases h)
  · exact fun _ => ⟨or_true_of hh.1, or_true_of hh.2⟩
  · exact fun _ => (by first | trivial | simp)
  · exact fun _ => hf
end
/-- What those operations leave. -/
def SeR (p s n k yn c : Nat) (A : Option Addr) (x : List UInt8) : Nat → Value → Prop
  | 0, v => v = .pointer (some ⟨p, 0, none⟩)
  | 1, v => v = .pointer (some ⟨p, 0, none⟩)
  | 2, v => v = .pointer (some ⟨p, 1, none⟩)
  | 3, v => v = .slice (some ⟨s, 0, none⟩) n n
  | 4, v => v = .int .i64 (k : Int)
  | 5, v => v = .pointer (some ⟨p, 0, none⟩)
  | 6, v => v = .pointer (some ⟨p, 0, none⟩)
  | 7, v => v = .pointer (some ⟨p, 1, none⟩)
  | 8, v => v = .slice (some ⟨s, 0, none⟩) n n
  | 9, v => v = .int .i64 (k : Int)
  | 10, v => v = .pointer (some ⟨s, k, none⟩)
  | 11, v => v = .slice A yn c
  | 12, v => v = .string (strOf x)
  | 15, v => v = .pointer (some ⟨s, k, none⟩)
  | _, _ => True
set_option maxRecDepth 100000 in
set_option maxHeartbeats 8000000 in
theorem rtake_yes {w : World} {p q s n : Nat} {Z : List (List (List UInt8))} {F : List Nat} (h : RefF w p q s n Z F) (k : Nat) (hk : k < n) (t1 t2 : List (List UInt8)) (x : List UInt8) (hZ : Z.getD k [] = t1 ++ x :: t2) (hl6 : (Z.getD k []).length ≤ 1000000) (ht6 : (Z.getD (n + k) []).length + 1 ≤ 1000000) :
    Calls Try.prog 17 #[.pointer (some ⟨p, 0, none⟩), .int .i64 (k : Int), .int .i64 (t1.length : Int)] w fun e w' => e = .returned (.tuple #[.string (strOf x), .int .i64 0]) ∧ ∃ F', RefF w' p q s n ((Z.set k (t1 ++ t2)).set (n + k) (Z.getD (n + k) [] ++ [x])) F' ∧ Grew w F F' ∧ Untouched F w w' := by
  obtain ⟨A, c, hc, hr, hcl, hcm⟩ := h.lo k hk
  have hcL : w.cell? (loc q s n k) = some (.slice A (Z.getD k []).length c) := by rw [loc_lo hk]; exact hc
  have ci := rbox_yes h k hk
  have hn := h.hn
  have hp := h.bp.cell 0
  simp only [List.getElem?_toArray, List.getElem?_cons_zero] at hp
  have HR := hidv_ h
  have HK := hidv_ hk
  rw [hZ] at hc hr hcl hl6 hcL
  clear hZ
  obtain ⟨g, rfl, hcx, hg⟩ := hr.cell t1.length (by simp)
  rw [show (t1 ++ x :: t2).getD t1.length [] = x by simp [List.getD]] at hcx
  obtain ⟨r, hrl⟩ : ∃ r, (t1 ++ x :: t2).length = r := ⟨_, rfl⟩
  have hrl' : r = t1.length + 1 + t2.length := by rw [← hrl]; simp; omega
  rw [hrl] at hc hr hcl hl6 hcL
  have hsrc := hr.halves (by omega)
  obtain ⟨o, ho⟩ : ∃ o, (if c = t1.length + 1 then 0 else t1.length + 1) = o := ⟨_, rfl⟩
  obtain ⟨d, hd⟩ : ∃ d, c - (t1.length + 1) = d := ⟨_, rfl⟩
  have hs1 := fun W => sliceS_to g r c t1.length (by omega) W
  have hs2 := fun W => sliceS_from g r c (t1.length + 1) (by omega) W
  rw [show (((t1.length + 1 : Nat)) : Int) = (t1.length : Int) + 1 by omega, ho, hd, show r - (t1.length + 1) = t2.length by omega] at hs2
  rw [ho] at hsrc
  have HSRC := hidv_ hsrc
  have HRL := hidv_ (And.intro hrl' hl6)
  have HS1 := hidv_ hs1
  have HS2 := hidv_ hs2
  have HC := hidv_ hc
  have HCL := hidv_ hcL
  have HG := hidv_ hg
  obtain ⟨ys, hy⟩ : ∃ ys, Z.getD (n + k) [] = ys := ⟨_, rfl⟩
  rw [hy] at ht6 ⊢
  obtain ⟨yn, hyn⟩ : ∃ yn, ys.length = yn := ⟨_, rfl⟩
  rw [hyn] at ht6
  have HY := hidv_ hy
  have HYN := hidv_ hyn
  have HT6 := hidv_ ht6
  have d1 : decide ((t1.length : Int) < 0) = false := decide_eq_false (by omega)
  have d2 : decide ((r : Int) ≤ (t1.length : Int)) = false := decide_eq_false (by omega)
  have d3 : decide (r ≤ t1.length) = false := decide_eq_false (by omega)
  have tn : decide ((t1.length : Int) < (r : Int)) = true := decide_eq_true (by omega)
  have ti : t1.length < r := by omega
  have ti2 : (t1.length : Int) < (r : Int) := by omega
  have e1 : IntKind.i64.wrap ((t1.length : Int) + 1) = (t1.length : Int) + 1 := IntWalk.i64_in _ (by omega)
  clear h hr hcL hsrc hs1 hs2 hg hy hyn ht6 ho hd hrl hrl' hl6
  go_enter Try.func17, Try.ntmps17
  go_upto_region 6 with (go_at_call 24; ((with_reducible refine ci.mono ?_); clear ci; rintro e w' ⟨rfl, rfl⟩))
  clear hc hp d1 d2 d3 tn hcx ti ti2
  have EW := hidv_ e1
  clear e1
  refine region_byJF [37, 38, 39, 40, 41, 42, 43, 44, 45, 46, 47, 48, 49, 50, 51, 52, 53, 54, 55, 56, 57, 58, 59, 60, 61, 62, 63, 64] (fun _ => True) (fun _ _ => True) (fun jj v _ => TkR p q n k g r c o d t1 t2 jj v) (fun D a W => TkJ w (fun W => ∃ F', RefF W p q s n (Z.set k (t1 ++ t2)) F' ∧ Grew w F F' ∧ Untouched F w W) (fun W => Bk W p 49 #[.slice (some ⟨q, 0, none⟩) n n, .slice (some ⟨s, 0, none⟩) n n]) t1 (t1 ++ t2) D a W) (by kernel_rfl) (by kernel_rfl) (by kernel_rfl) (by kernel_rfl) (fun j v w w' hT hr => ?_) (fun j v w hlt hj _ => ?_) trivial ?_ ⟨ApJ.start ((Below.refl _ _).drew) HR.out.bp, ⟨fun h => (by cases h), fun h => (by cases h)⟩⟩ ?_
  · exact hr
  · rcases j with _ | _ | _ | _ | _ | _ | _ | _ | _ | _ | _ | _ | _ | _ | _ | _ | _ | _ | _ | _ | _ | _ | _ | _ | _ | _ | _ | _ | _ | j
    all_goals first
      | (exfalso; simp [dstOf] at hj; done)
      | trivial
  · refine ⟨fun D a W hC hd hsz hf hv hJ hL hW K hK => ?_, fun D a W hC hd hsz hf hv hJ hL hW K hK => ?_, fun D a W hC hd hsz hf hv hJ hL hW K hK => ?_, fun D a W hC hd hsz hf hv hJ hL hW K hK => ?_, fun D a W hC hd hsz hf hv hJ hL hW K hK => ?_, fun D a W hC hd hsz hf hv hJ hL hW K hK => ?_, fun D a W hC hd hsz hf hv hJ hL hW K hK => ?_, fun D a W hC hd hsz hf hv hJ hL hW K hK => ?_, fun D a W hC hd hsz hf hv hJ hL hW K hK => ?_, fun D a W hC hd hsz hf hv hJ hL hW K hK => ?_, fun D a W hC hd hsz hf hv hJ hL hW K hK => ?_, fun D a W hC hd hsz hf hv hJ hL hW K hK => ?_, fun D a W hC hd hsz hf hv hJ hL hW K hK => ?_, fun D a W hC hd hsz hf hv hJ hL hW K hK => ?_, fun D a W hC hd hsz hf hv hJ hL hW K hK => ?_, fun D a W hC hd hsz hf hv hJ hL hW K hK => ?_, fun D a W hC hd hsz hf hv hJ hL hW K hK => ?_, fun D a W hC hd hsz hf hv hJ hL hW K hK => ?_, fun D a W hC hd hsz hf hv hJ hL hW K hK => ?_, fun D a W hC hd hsz hf hv hJ hL hW K hK => ?_, fun D a W hC hd hsz hf hv hJ hL hW K hK => ?_, fun D a W hC hd hsz hf hv hJ hL hW K hK => ?_, fun D a W hC hd hsz hf hv hJ hL hW K hK => ?_, fun D a W hC hd hsz hf hv hJ hL hW K hK => ?_, fun D a W hC hd hsz hf hv hJ hL hW K hK => ?_, fun D a W hC hd hsz hf hv hJ hL hW K hK => ?_, fun D a W hC hd hsz hf hv hJ hL hW K hK => ?_, fun D a W hC hd hsz hf hv hJ hL hW K hK => ?_, fun D a W hC hd hsz hf hv hJ hL hW K hK => ?_, trivial⟩
    · clear hsz
      have e1 := slot_of (a := a) (s := 0) (v := .pointer (some ⟨p, 0, none⟩)) (hf 0 (by kernel_rfl))
      refine step_run (wanted_none rfl) (v := .pointer (some ⟨p, 0, none⟩)) (w' := W) ?_ (hK _ _ trivial trivial rfl (hJ.same 0 _ _ (by decide) (by decide) (by decide)))
      go_simp
    · clear hsz
      have e1 := slot_of (a := a) (s := 37) (v := .pointer (some ⟨p, 0, none⟩)) (hv 0 (by kernel_rfl))
      refine step_run (wanted_none rfl) (v := .pointer (some ⟨p, 0, none⟩)) (w' := W) ?_ (hK _ _ trivial trivial rfl (hJ.same 1 _ _ (by decide) (by decide) (by decide)))
      go_simp
    · clear hsz
      have e1 := slot_of (a := a) (s := 38) (v := .pointer (some ⟨p, 0, none⟩)) (hv 1 (by kernel_rfl))
      refine step_run (wanted_none rfl) (v := .pointer (some ⟨p, 0, none⟩)) (w' := W) ?_ (hK _ _ trivial trivial rfl (hJ.same 2 _ _ (by decide) (by decide) (by decide)))
      go_simp
    · clear hsz
      have e1 := slot_of (a := a) (s := 39) (v := .pointer (some ⟨p, 0, none⟩)) (hv 2 (by kernel_rfl))
      have hcc := hJ.ap.pr.cell 0
      simp only [List.getElem?_toArray, List.getElem?_cons_zero] at hcc
      refine step_run (wanted_none rfl) (v := .slice (some ⟨q, 0, none⟩) n n) (w' := W) ?_ (hK _ _ trivial trivial rfl (hJ.same 3 _ _ (by decide) (by decide) (by decide)))
      go_simp
    · clear hsz
      have e1 := slot_of (a := a) (s := 1) (v := .int .i64 (k : Int)) (hf 1 (by kernel_rfl))
      refine step_run (wanted_none rfl) (v := .int .i64 (k : Int)) (w' := W) ?_ (hK _ _ trivial trivial rfl (hJ.same 4 _ _ (by decide) (by decide) (by decide)))
      go_simp
    · refine step_run (wanted_none rfl) (v := .slice (some ⟨W.heap.size, 0, none⟩) 0 0) (w' := W.alloc (.cells #[] 9)) ?_ (hK _ _ trivial trivial trivial ⟨hJ.ap.nil hL (by rw [hsz]; simp) (by decide) (by decide) (fun W2 hb hp => hp.below hb hp.lt), (hJ.ch.step 5 (fun e => absurd e (by decide)) (fun e => absurd e (by decide)))⟩)
      go_simp
    · clear hsz
      have e1 := slot_of (a := a) (s := 0) (v := .pointer (some ⟨p, 0, none⟩)) (hf 0 (by kernel_rfl))
      refine step_run (wanted_none rfl) (v := .pointer (some ⟨p, 0, none⟩)) (w' := W) ?_ (hK _ _ trivial trivial rfl (hJ.same 6 _ _ (by decide) (by decide) (by decide)))
      go_simp
    · clear hsz
      have e1 := slot_of (a := a) (s := 43) (v := .pointer (some ⟨p, 0, none⟩)) (hv 6 (by kernel_rfl))
      refine step_run (wanted_none rfl) (v := .pointer (some ⟨p, 0, none⟩)) (w' := W) ?_ (hK _ _ trivial trivial rfl (hJ.same 7 _ _ (by decide) (by decide) (by decide)))
      go_simp
    · clear hsz
      have e1 := slot_of (a := a) (s := 44) (v := .pointer (some ⟨p, 0, none⟩)) (hv 7 (by kernel_rfl))
      refine step_run (wanted_none rfl) (v := .pointer (some ⟨p, 0, none⟩)) (w' := W) ?_ (hK _ _ trivial trivial rfl (hJ.same 8 _ _ (by decide) (by decide) (by decide)))
      go_simp
    · clear hsz
      have e1 := slot_of (a := a) (s := 45) (v := .pointer (some ⟨p, 0, none⟩)) (hv 8 (by kernel_rfl))
      have hcc := hJ.ap.pr.cell 0
      simp only [List.getElem?_toArray, List.getElem?_cons_zero] at hcc
      refine step_run (wanted_none rfl) (v := .slice (some ⟨q, 0, none⟩) n n) (w' := W) ?_ (hK _ _ trivial trivial rfl (hJ.same 9 _ _ (by decide) (by decide) (by decide)))
      go_simp
    · clear hsz
      have e1 := slot_of (a := a) (s := 1) (v := .int .i64 (k : Int)) (hf 1 (by kernel_rfl))
      refine step_run (wanted_none rfl) (v := .int .i64 (k : Int)) (w' := W) ?_ (hK _ _ trivial trivial rfl (hJ.same 10 _ _ (by decide) (by decide) (by decide)))
      go_simp
    · clear hsz
      have e1 := slot_of (a := a) (s := 46) (v := .slice (some ⟨q, 0, none⟩) n n) (hv 9 (by kernel_rfl))
      have e2 := slot_of (a := a) (s := 47) (v := .int .i64 (k : Int)) (hv 10 (by kernel_rfl))
      have tk : decide ((k : Int) < (n : Int)) = true := decide_eq_true (by omega)
      refine step_run (wanted_none rfl) (v := .pointer (some ⟨q, k, none⟩)) (w' := W) ?_ (hK _ _ trivial trivial rfl (hJ.same 11 _ _ (by decide) (by decide) (by decide)))
      go_simp
    · clear hsz
      have e1 := slot_of (a := a) (s := 48) (v := .pointer (some ⟨q, k, none⟩)) (hv 11 (by kernel_rfl))
      have hb := hJ.ap.bel (hJ.ap.openF (hJ.ap.open2 (hJ.ap.open1d 14 (by decide) (hJ.ch.n14 hL))))
      have hcc := (hb.cell (p := ⟨q, k, none⟩) (HR.out.hF q HR.out.hq)).trans HC.out
      refine step_run (wanted_none rfl) (v := .slice (some ⟨g, 0, none⟩) r c) (w' := W) ?_ (hK _ _ trivial trivial rfl (hJ.same 12 _ _ (by decide) (by decide) (by decide)))
      go_simp
    · clear hsz
      have e1 := slot_of (a := a) (s := 2) (v := .int .i64 (t1.length : Int)) (hf 2 (by kernel_rfl))
      refine step_run (wanted_none rfl) (v := .int .i64 (t1.length : Int)) (w' := W) ?_ (hK _ _ trivial trivial rfl (hJ.same 13 _ _ (by decide) (by decide) (by decide)))
      go_simp
    · clear hsz
      have e1 := eval_of (a := a) (s := 49) (v := .slice (some ⟨g, 0, none⟩) r c) (hv 12 (by kernel_rfl))
      have e2 := eval_of (a := a) (s := 50) (v := .int .i64 (t1.length : Int)) (hv 13 (by kernel_rfl))
      have hs1w := HS1.out W
      have hs2w := HS2.out W
      refine step_run (wanted_none rfl) (v := .slice (some ⟨g, 0, none⟩) t1.length c) (w' := W) ?_ (hK _ _ trivial trivial rfl ⟨hJ.ap.same 14 _ _ (by decide) (by decide), hJ.ch.step 14 (fun _ => hW 12 (by kernel_rfl)) (fun e => absurd e (by decide))⟩)
      unfold execOp
      simp only [e1, e2, Option.map_some, Option.map_none, Sem.run_bind, Sem.run_pure, Sem.run_map, Result.andThen_ok, Instr.sliceAt, run_underlying Try.underlying46, hs1w, hs2w]
    · obtain ⟨g0, e1', o0⟩ := hJ.ap.e0 (hW 5 (by kernel_rfl)) hL
      have e1 := eval_of e1'
      have e2 := eval_of (a := a) (s := 51) (v := .slice (some ⟨g, 0, none⟩) t1.length c) (hv 14 (by kernel_rfl))
      have hb := hJ.ap.bel (hJ.ap.openF (hJ.ap.open2 hL))
      obtain ⟨A2, c2, W2, hrun, k1, k2⟩ := run_app0S g0 o0 (HSRC.out.1.below hb (fun a _ e => by injection e with e; subst e; exact HG.out)) t1.length c rfl (by have := HRL.out; omega) hb.size 46
      rw [if_pos (wanted_none rfl)]
      unfold Oper.wp execOp
      simp only [resolve, invoke, builtin, Sem.run_bind, Sem.run_pure, Result.andThen_ok, List.map_toArray, List.map_cons, List.map_nil, e1, e2, hrun]
      exact hK _ _ trivial trivial trivial ⟨hJ.ap.app1 hL (hW 5 (by kernel_rfl)) (fun j hj => by simp only [List.mem_cons, List.not_mem_nil, or_false] at hj; subst hj; exact hW 14 (by kernel_rfl)) (by rw [hsz]; simp) (by decide) (by decide) (fun W2 hb hp => hp.below hb hp.lt) A2 c2 k1 k2, (hJ.ch.step 15 (fun e => absurd e (by decide)) (fun e => absurd e (by decide)))⟩
    · clear hsz
      have e1 := slot_of (a := a) (s := 0) (v := .pointer (some ⟨p, 0, none⟩)) (hf 0 (by kernel_rfl))
      refine step_run (wanted_none rfl) (v := .pointer (some ⟨p, 0, none⟩)) (w' := W) ?_ (hK _ _ trivial trivial rfl (hJ.same 16 _ _ (by decide) (by decide) (by decide)))
      go_simp
    · clear hsz
      have e1 := slot_of (a := a) (s := 53) (v := .pointer (some ⟨p, 0, none⟩)) (hv 16 (by kernel_rfl))
      refine step_run (wanted_none rfl) (v := .pointer (some ⟨p, 0, none⟩)) (w' := W) ?_ (hK _ _ trivial trivial rfl (hJ.same 17 _ _ (by decide) (by decide) (by decide)))
      go_simp
    · clear hsz
      have e1 := slot_of (a := a) (s := 54) (v := .pointer (some ⟨p, 0, none⟩)) (hv 17 (by kernel_rfl))
      refine step_run (wanted_none rfl) (v := .pointer (some ⟨p, 0, none⟩)) (w' := W) ?_ (hK _ _ trivial trivial rfl (hJ.same 18 _ _ (by decide) (by decide) (by decide)))
      go_simp
    · clear hsz
      have e1 := slot_of (a := a) (s := 55) (v := .pointer (some ⟨p, 0, none⟩)) (hv 18 (by kernel_rfl))
      have hcc := hJ.ap.pr.cell 0
      simp only [List.getElem?_toArray, List.getElem?_cons_zero] at hcc
      refine step_run (wanted_none rfl) (v := .slice (some ⟨q, 0, none⟩) n n) (w' := W) ?_ (hK _ _ trivial trivial rfl (hJ.same 19 _ _ (by decide) (by decide) (by decide)))
      go_simp
    · clear hsz
      have e1 := slot_of (a := a) (s := 1) (v := .int .i64 (k : Int)) (hf 1 (by kernel_rfl))
      refine step_run (wanted_none rfl) (v := .int .i64 (k : Int)) (w' := W) ?_ (hK _ _ trivial trivial rfl (hJ.same 20 _ _ (by decide) (by decide) (by decide)))
      go_simp
    · clear hsz
      have e1 := slot_of (a := a) (s := 56) (v := .slice (some ⟨q, 0, none⟩) n n) (hv 19 (by kernel_rfl))
      have e2 := slot_of (a := a) (s := 57) (v := .int .i64 (k : Int)) (hv 20 (by kernel_rfl))
      have tk : decide ((k : Int) < (n : Int)) = true := decide_eq_true (by omega)
      refine step_run (wanted_none rfl) (v := .pointer (some ⟨q, k, none⟩)) (w' := W) ?_ (hK _ _ trivial trivial rfl (hJ.same 21 _ _ (by decide) (by decide) (by decide)))
      go_simp
    · clear hsz
      have e1 := slot_of (a := a) (s := 58) (v := .pointer (some ⟨q, k, none⟩)) (hv 21 (by kernel_rfl))
      have hb := hJ.ap.bel (hJ.ap.openF (hJ.ap.open2d 25 (by decide) (hJ.ch.n25 hL)))
      have hcc := (hb.cell (p := ⟨q, k, none⟩) (HR.out.hF q HR.out.hq)).trans HC.out
      refine step_run (wanted_none rfl) (v := .slice (some ⟨g, 0, none⟩) r c) (w' := W) ?_ (hK _ _ trivial trivial rfl (hJ.same 22 _ _ (by decide) (by decide) (by decide)))
      go_simp
    · clear hsz
      have e1 := slot_of (a := a) (s := 2) (v := .int .i64 (t1.length : Int)) (hf 2 (by kernel_rfl))
      refine step_run (wanted_none rfl) (v := .int .i64 (t1.length : Int)) (w' := W) ?_ (hK _ _ trivial trivial rfl (hJ.same 23 _ _ (by decide) (by decide) (by decide)))
      go_simp
    · clear hsz
      have e1 := slot_of (a := a) (s := 60) (v := .int .i64 (t1.length : Int)) (hv 23 (by kernel_rfl))
      have ew := EW.out
      refine step_run (wanted_none rfl) (v := .int .i64 ((t1.length : Int) + 1)) (w' := W) ?_ (hK _ _ trivial trivial rfl (hJ.same 24 _ _ (by decide) (by decide) (by decide)))
      go_simp
    · clear hsz
      have e1 := eval_of (a := a) (s := 59) (v := .slice (some ⟨g, 0, none⟩) r c) (hv 22 (by kernel_rfl))
      have e2 := eval_of (a := a) (s := 61) (v := .int .i64 ((t1.length : Int) + 1)) (hv 24 (by kernel_rfl))
      have hs1w := HS1.out W
      have hs2w := HS2.out W
      refine step_run (wanted_none rfl) (v := .slice (some ⟨g, o, none⟩) t2.length d) (w' := W) ?_ (hK _ _ trivial trivial rfl ⟨hJ.ap.same 25 _ _ (by decide) (by decide), hJ.ch.step 25 (fun e => absurd e (by decide)) (fun _ => hW 22 (by kernel_rfl))⟩)
      unfold execOp
      simp only [e1, e2, Option.map_some, Option.map_none, Sem.run_bind, Sem.run_pure, Sem.run_map, Result.andThen_ok, Instr.sliceAt, run_underlying Try.underlying46, hs1w, hs2w]
    · obtain ⟨A1, c1, e1', o1⟩ := hJ.ap.e1 (hW 15 (by kernel_rfl)) hL
      have e1 := eval_of e1'
      have e2 := eval_of (a := a) (s := 62) (v := .slice (some ⟨g, o, none⟩) t2.length d) (hv 25 (by kernel_rfl))
      have hb := hJ.ap.bel (hJ.ap.openF hL)
      obtain ⟨A2, c2, W2, hrun, k1, k2⟩ := run_appOS o1 (HSRC.out.2.below hb (fun a _ e => by injection e with e; subst e; exact HG.out)) t2.length d rfl (by have := HRL.out; omega) hb.size 46 (t1 ++ t2).length (by simp)
      rw [if_pos (wanted_none rfl)]
      unfold Oper.wp execOp
      simp only [resolve, invoke, builtin, Sem.run_bind, Sem.run_pure, Result.andThen_ok, List.map_toArray, List.map_cons, List.map_nil, e1, e2, hrun]
      exact hK _ _ trivial trivial trivial ⟨hJ.ap.app2 hL (hW 15 (by kernel_rfl)) (fun j hj => by simp only [List.mem_cons, List.not_mem_nil, or_false] at hj; subst hj; exact hW 25 (by kernel_rfl)) (by rw [hsz]; simp) (by decide) (by decide) (fun W2 hb2 hp => hp.below hb2 HR.out.bp.lt) A2 c2 _ o1 k1 k2, (hJ.ch.step 26 (fun e => absurd e (by decide)) (fun e => absurd e (by decide)))⟩
    · clear hsz
      have e1 := slot_of (a := a) (s := 40) (v := .slice (some ⟨q, 0, none⟩) n n) (hv 3 (by kernel_rfl))
      have e2 := slot_of (a := a) (s := 41) (v := .int .i64 (k : Int)) (hv 4 (by kernel_rfl))
      have tk : decide ((k : Int) < (n : Int)) = true := decide_eq_true (by omega)
      refine step_run (wanted_none rfl) (v := .pointer (some ⟨q, k, none⟩)) (w' := W) ?_ (hK _ _ trivial trivial rfl (hJ.same 27 _ _ (by decide) (by decide) (by decide)))
      go_simp
    · clear hsz
      obtain ⟨A2, c2, e2', o2⟩ := hJ.ap.e2 (hW 26 (by kernel_rfl)) hL
      have e1 := slot_of (a := a) (s := 64) (v := .pointer (some ⟨q, k, none⟩)) (hv 27 (by kernel_rfl))
      have e2 := slot_of e2'
      have hb := hJ.ap.bel hL
      obtain ⟨⟨f1, f2⟩, hcc, hfz⟩ := put_own HR.out k (by omega) (HCL.out) hb o2
      rw [loc_lo HK.out] at f1 f2 hcc hfz
      refine step_skip (wanted_none rfl) (w' := W.setCell ⟨q, k, none⟩ (.slice A2 (t1 ++ t2).length c2)) ?_ (hK undef _ trivial trivial trivial ⟨hJ.ap.store (hW 26 (by kernel_rfl)) (by decide) (f1.bp) ⟨_, f1, grew_since F w W, f2⟩, (hJ.ch.step 28 (fun e => absurd e (by decide)) (fun e => absurd e (by decide)))⟩)
      go_simp
  · intro f wz hC hv L2 hL2 hJ2
    obtain ⟨aE, hJ, hfr⟩ := hJ2
    obtain ⟨F2, f1, f2, f3⟩ := hJ.ap.fin (hL2 28 (by decide))
    have X1 := hidv_ f1
    have X2 := hidv_ f2
    have X3 := hidv_ f3
    obtain ⟨A2, c2, hc2, hr2, hl2, hm2⟩ := f1.hi k HK.out
    rw [show (Z.set k (t1 ++ t2)).getD (n + k) [] = Z.getD (n + k) [] by rw [List.getD_eq_getElem?_getD, List.getD_eq_getElem?_getD, List.getElem?_set_ne (show k ≠ n + k by omega)], HY.out, HYN.out] at hc2 hr2 hl2
    have hp1 := f1.bp.cell 1
    simp only [List.getElem?_toArray, List.getElem?_cons_succ, List.getElem?_cons_zero] at hp1
    have HR2 := hidv_ hr2
    have HC2 := hidv_ hc2
    simp only [framed, List.foldl_cons, List.foldl_nil, List.setIfInBounds_toArray, List.set_cons_succ, List.set_cons_zero]
    clear hv hC hJ hfr hL2 f1 f2 f3 hr2 hl2 hm2 hc2 hp1
    rename_i K hK
    refine hK _ _ ?_
    go_upto_region 7 with fail
    refine region_byJF [65, 66, 67, 68, 69, 70, 71, 72, 73, 74, 75, 76, 77, 78, 79, 80] (fun _ => True) (fun _ _ => True) (fun jj v _ => SeR p s n k yn c2 A2 x jj v) (fun D a W => SeJ wz (fun W => ∃ F', RefF W p q s n ((Z.set k (t1 ++ t2)).set (n + k) (ys ++ [x])) F' ∧ Grew wz F2 F' ∧ Untouched F2 wz W) (fun W => Bk W p 49 #[.slice (some ⟨q, 0, none⟩) n n, .slice (some ⟨s, 0, none⟩) n n]) s k yn x D a W) (by kernel_rfl) (by kernel_rfl) (by kernel_rfl) (by kernel_rfl) (fun j v w w' hT hr => ?_) (fun j v w hlt hj _ => ?_) trivial ?_ ⟨X1.out.bp, fun _ => (Below.refl _ _).drew, fun h => (by cases h), fun h => (by cases h), fun h => (by cases h), fun h => (by cases h), fun h => (by cases h)⟩ ?_
    · exact hr
    · rcases j with _ | _ | _ | _ | _ | _ | _ | _ | _ | _ | _ | _ | _ | _ | _ | _ | _ | j
      all_goals first
        | (exfalso; simp [dstOf] at hj; done)
        | trivial
    · refine ⟨fun D a W hC hd hsz hf hv hJ hL hW K hK => ?_, fun D a W hC hd hsz hf hv hJ hL hW K hK => ?_, fun D a W hC hd hsz hf hv hJ hL hW K hK => ?_, fun D a W hC hd hsz hf hv hJ hL hW K hK => ?_, fun D a W hC hd hsz hf hv hJ hL hW K hK => ?_, fun D a W hC hd hsz hf hv hJ hL hW K hK => ?_, fun D a W hC hd hsz hf hv hJ hL hW K hK => ?_, fun D a W hC hd hsz hf hv hJ hL hW K hK => ?_, fun D a W hC hd hsz hf hv hJ hL hW K hK => ?_, fun D a W hC hd hsz hf hv hJ hL hW K hK => ?_, fun D a W hC hd hsz hf hv hJ hL hW K hK => ?_, fun D a W hC hd hsz hf hv hJ hL hW K hK => ?_, fun D a W hC hd hsz hf hv hJ hL hW K hK => ?_, fun D a W hC hd hsz hf hv hJ hL hW K hK => ?_, fun D a W hC hd hsz hf hv hJ hL hW K hK => ?_, fun D a W hC hd hsz hf hv hJ hL hW K hK => ?_, fun D a W hC hd hsz hf hv hJ hL hW K hK => ?_, trivial⟩
      · clear hsz
        have e1 := slot_of (a := a) (s := 0) (v := .pointer (some ⟨p, 0, none⟩)) (hf 0 (by kernel_rfl))
        refine step_run (wanted_none rfl) (v := .pointer (some ⟨p, 0, none⟩)) (w' := W) ?_ (hK _ _ trivial trivial rfl (hJ.same 0 _ _ (by decide) (by decide)))
        go_simp
      · clear hsz
        have e1 := slot_of (a := a) (s := 65) (v := .pointer (some ⟨p, 0, none⟩)) (hv 0 (by kernel_rfl))
        refine step_run (wanted_none rfl) (v := .pointer (some ⟨p, 0, none⟩)) (w' := W) ?_ (hK _ _ trivial trivial rfl (hJ.same 1 _ _ (by decide) (by decide)))
        go_simp
      · clear hsz
        have e1 := slot_of (a := a) (s := 66) (v := .pointer (some ⟨p, 0, none⟩)) (hv 1 (by kernel_rfl))
        refine step_run (wanted_none rfl) (v := .pointer (some ⟨p, 1, none⟩)) (w' := W) ?_ (hK _ _ trivial trivial rfl (hJ.same 2 _ _ (by decide) (by decide)))
        go_simp
      · clear hsz
        have e1 := slot_of (a := a) (s := 67) (v := .pointer (some ⟨p, 1, none⟩)) (hv 2 (by kernel_rfl))
        have hcc := hJ.pr.cell 1
        simp only [List.getElem?_toArray, List.getElem?_cons_succ, List.getElem?_cons_zero] at hcc
        refine step_run (wanted_none rfl) (v := .slice (some ⟨s, 0, none⟩) n n) (w' := W) ?_ (hK _ _ trivial trivial rfl (hJ.same 3 _ _ (by decide) (by decide)))
        go_simp
      · clear hsz
        have e1 := slot_of (a := a) (s := 1) (v := .int .i64 (k : Int)) (hf 1 (by kernel_rfl))
        refine step_run (wanted_none rfl) (v := .int .i64 (k : Int)) (w' := W) ?_ (hK _ _ trivial trivial rfl (hJ.same 4 _ _ (by decide) (by decide)))
        go_simp
      · clear hsz
        have e1 := slot_of (a := a) (s := 0) (v := .pointer (some ⟨p, 0, none⟩)) (hf 0 (by kernel_rfl))
        refine step_run (wanted_none rfl) (v := .pointer (some ⟨p, 0, none⟩)) (w' := W) ?_ (hK _ _ trivial trivial rfl (hJ.same 5 _ _ (by decide) (by decide)))
        go_simp
      · clear hsz
        have e1 := slot_of (a := a) (s := 70) (v := .pointer (some ⟨p, 0, none⟩)) (hv 5 (by kernel_rfl))
        refine step_run (wanted_none rfl) (v := .pointer (some ⟨p, 0, none⟩)) (w' := W) ?_ (hK _ _ trivial trivial rfl (hJ.same 6 _ _ (by decide) (by decide)))
        go_simp
      · clear hsz
        have e1 := slot_of (a := a) (s := 71) (v := .pointer (some ⟨p, 0, none⟩)) (hv 6 (by kernel_rfl))
        refine step_run (wanted_none rfl) (v := .pointer (some ⟨p, 1, none⟩)) (w' := W) ?_ (hK _ _ trivial trivial rfl (hJ.same 7 _ _ (by decide) (by decide)))
        go_simp
      · clear hsz
        have e1 := slot_of (a := a) (s := 72) (v := .pointer (some ⟨p, 1, none⟩)) (hv 7 (by kernel_rfl))
        have hcc := hJ.pr.cell 1
        simp only [List.getElem?_toArray, List.getElem?_cons_succ, List.getElem?_cons_zero] at hcc
        refine step_run (wanted_none rfl) (v := .slice (some ⟨s, 0, none⟩) n n) (w' := W) ?_ (hK _ _ trivial trivial rfl (hJ.same 8 _ _ (by decide) (by decide)))
        go_simp
      · clear hsz
        have e1 := slot_of (a := a) (s := 1) (v := .int .i64 (k : Int)) (hf 1 (by kernel_rfl))
        refine step_run (wanted_none rfl) (v := .int .i64 (k : Int)) (w' := W) ?_ (hK _ _ trivial trivial rfl (hJ.same 9 _ _ (by decide) (by decide)))
        go_simp
      · clear hsz
        have e1 := slot_of (a := a) (s := 73) (v := .slice (some ⟨s, 0, none⟩) n n) (hv 8 (by kernel_rfl))
        have e2 := slot_of (a := a) (s := 74) (v := .int .i64 (k : Int)) (hv 9 (by kernel_rfl))
        have tk : decide ((k : Int) < (n : Int)) = true := decide_eq_true (by omega)
        refine step_run (wanted_none rfl) (v := .pointer (some ⟨s, k, none⟩)) (w' := W) ?_ (hK _ _ trivial trivial rfl (hJ.same 10 _ _ (by decide) (by decide)))
        go_simp
      · clear hsz
        have e1 := slot_of (a := a) (s := 75) (v := .pointer (some ⟨s, k, none⟩)) (hv 10 (by kernel_rfl))
        have hb := hJ.bel (hJ.open14 (.inl hL))
        have hcc := (hb.cell (p := ⟨s, k, none⟩) (X1.out.hF s X1.out.hs)).trans HC2.out
        refine step_run (wanted_none rfl) (v := .slice A2 yn c2) (w' := W) ?_ (hK _ _ trivial trivial rfl (hJ.same 11 _ _ (by decide) (by decide)))
        go_simp
      · clear hsz
        have e1 := slot_of (a := a) (s := 8) (v := .string (strOf x)) (hf 8 (by kernel_rfl))
        refine step_run (wanted_none rfl) (v := .string (strOf x)) (w' := W) ?_ (hK _ _ trivial trivial rfl (hJ.same 12 _ _ (by decide) (by decide)))
        go_simp
      · have HLT : Hid (78 < a.tmps.size) := by rw [hsz]; exact hidv_ (by simp)
        clear hsz
        have e1 := slot_of (a := a) (s := 77) (v := .string (strOf x)) (hv 12 (by kernel_rfl))
        refine step_run (wanted_none rfl) (v := .slice (some ⟨W.heap.size, 0, none⟩) 1 1) (w' := W.alloc (.cells #[.string (strOf x)] 9)) ?_ (hK _ _ trivial trivial trivial (hJ.one hL HLT.out (fun W2 hb hp => hp.below hb hp.lt)))
        go_simp
      · have HLT : 79 < a.tmps.size := by rw [hsz]; simp
        obtain ⟨g3, e2', x4⟩ := hJ.ex (hW 13 (by kernel_rfl)) hL
        have e1 := eval_of (a := a) (s := 76) (v := .slice A2 yn c2) (hv 11 (by kernel_rfl))
        have e2 := eval_of e2'
        have hb := hJ.bel hL
        rw [if_pos (wanted_none rfl)]
        refine wp_appStr (.tmp 76) (.tmp 78) rfl (HR2.out.below hb (Nat.le_refl _) (fun k hk => hk)) e1 g3 1 e2 x x4 yn HYN.out HT6.out ?_
        intro A' c' w3 k1 k2 k4
        have hc3 : W.cell? (loc q s n (n + k)) = some (.slice A2 yn c2) := by rw [loc_hi]; exact (hb.cell (p := ⟨s, k, none⟩) (X1.out.hF s X1.out.hs)).trans HC2.out
        obtain ⟨⟨f4, f5⟩, hpc, hpf⟩ := (X1.out.below hb).put (n + k) (by omega) hc3 k2 (F' := since F2 W w3) (fun k hk => mem_since.2 (.inl hk)) (since_lt (X1.out.below hb).hF k2.size) k1 (k4.elim (fun e => .inr (.inl e)) (fun e => .inr (.inr ⟨_, e, Nat.le_refl _⟩)))
        rw [loc_hi] at f4 f5 hpc hpf
        have hbp3 : Bk w3 p 49 #[.slice (some ⟨q, 0, none⟩) n n, .slice (some ⟨s, 0, none⟩) n n] := hJ.pr.grown k2 (fun e => by
          obtain ⟨cs, hh⟩ := HR2.out.ty _ e.symm
          exact X1.out.bp.ne hh (by decide) rfl)
        exact hK _ _ trivial trivial trivial (hJ.app hL (hW 13 (by kernel_rfl)) (hW 11 (by kernel_rfl)) HLT hbp3 A' c' _ ⟨_, f4, fun j hj => (grew_since F2 W w3 j hj).imp id (fun h => Nat.le_trans hb.size h), (Untouched.of_below hb).trans (Grew.refl _ _) f5⟩ f4.bp hpc hpf)
      · clear hsz
        have e1 := slot_of (a := a) (s := 68) (v := .slice (some ⟨s, 0, none⟩) n n) (hv 3 (by kernel_rfl))
        have e2 := slot_of (a := a) (s := 69) (v := .int .i64 (k : Int)) (hv 4 (by kernel_rfl))
        have tk : decide ((k : Int) < (n : Int)) = true := decide_eq_true (by omega)
        refine step_run (wanted_none rfl) (v := .pointer (some ⟨s, k, none⟩)) (w' := W) ?_ (hK _ _ trivial trivial rfl (hJ.same 15 _ _ (by decide) (by decide)))
        go_simp
      · clear hsz
        obtain ⟨A5, c5, v5, e2', q1, q2, hcc, hfz⟩ := hJ.e2 (hW 14 (by kernel_rfl)) hL
        have e1 := slot_of (a := a) (s := 80) (v := .pointer (some ⟨s, k, none⟩)) (hv 15 (by kernel_rfl))
        have e2 := slot_of e2'
        refine step_skip (wanted_none rfl) (w' := W.setCell ⟨s, k, none⟩ (.slice A5 (yn + 1) c5)) ?_ (hK undef _ trivial trivial trivial (hJ.store (hW 14 (by kernel_rfl)) q2 q1))
        go_simp
    · intro f w9 hC hv L2 hL2 hJ2
      obtain ⟨aE, hJ, hfr⟩ := hJ2
      obtain ⟨F3, f1, f2, f3⟩ := hJ.fin (hL2 16 (by decide))
      have Y1 := hidv_ f1
      have Y2 := hidv_ f2
      have Y3 := hidv_ f3
      simp only [framed, List.foldl_cons, List.foldl_nil, List.setIfInBounds_toArray, List.set_cons_succ, List.set_cons_zero]
      clear hv hC hJ hfr hL2 f1 f2 f3
      rename_i K7 hK7
      refine hK7 _ _ ?_
      go_wp2
      go_ret2
      exact ⟨rfl, F3, Y1.out, X2.out.trans X3.out.size Y2.out, X3.out.trans X2.out Y3.out⟩
end Go.Proofs.Ytdkemjipbkanoaa
