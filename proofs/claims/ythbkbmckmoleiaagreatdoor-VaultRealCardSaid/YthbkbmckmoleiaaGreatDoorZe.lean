/-
  A vault and the document's side by side: each call told the same; a slice made of a string, changed in place.
-/
import Derived.Test.YthbkbmckmoleiaaGreatDoorZd
namespace Go.Proofs.YthbkbmckmoleiaaGreatDoor
set_option maxRecDepth 100000
open Go.ChangeShapes Go.WideShapes Go.ChangeAt Go.RowKit
set_option linter.unusedVariables false
set_option linter.unusedSimpArgs false

theorem hidze_ {p : Prop} (h : p) : Hid p := h
/-- What the sealings so far are bounded by. -/
def LOk (L : List SealV) : Prop := ∀ t ∈ L, t.e ≤ 1048576 ∧ t.c ≤ 16 ∧ t.n ≤ 4611686018427387904 ∧ t.x.length ≤ 40 ∧ t.b.length ≤ 100 ∧ t.s.length = t.b.length + 16
theorem LOk.more {id : Bool} {K : List UInt8} {L : List SealV} (h : LOk L) (e c n : Int) (x b : List UInt8) (hx : x.length ≤ 40) (hb : b.length ≤ 100) : LOk (sL id K L e c n x b) := by
  unfold sL
  split
  · rename_i hok
    obtain ⟨⟨⟨h1, h2⟩, h3, h4, h5, h6⟩, _⟩ := hok
    intro t ht
    rcases List.mem_append.1 ht with h7 | h7
    · exact h t h7
    · rw [List.mem_singleton.1 h7]
      exact ⟨by simp only; omega, by simp only; omega, by simp only; omega, hx, hb, sO_len _ _ _ _ _ _ _ _⟩
  · exact h
theorem sL_len (id : Bool) (K : List UInt8) (L : List SealV) (e c n : Int) (x b : List UInt8) : (sL id K L e c n x b).length ≤ L.length + 1 := by
  unfold sL
  split
  · simp
  · omega
theorem tab_below {w w' : World} (ht : Tab w) (hg1 : 2 < w.heap.size) (hb : Below w.heap.size w w') : Tab w' ∧ 2 < w'.heap.size :=
  ⟨fun t hh => (hb.cell (p := ⟨_, t, none⟩) hg1).trans (ht t hh), Nat.lt_of_lt_of_le hg1 hb.size⟩
section
variable {id : Bool} {w0 w : World} {X : Nat → Prop} {P R : World → List Nat → Prop} {v sp nm kn g : Nat} {K : List UInt8} {N : List (List UInt8)} {L : List SealV}
theorem rblind_x {G : List Nat} (h : RS id g K N L w G) (hK : K.length = 32) (name : List UInt8) (hN : N.length ≤ 100000) : Calls Tryz.prog 42 #[.pointer (some ⟨g, 0, none⟩), .string (strOf name)] w fun e w' => e = .returned (.tuple #[.string (strOf (rV id K N name)), .int .i64 (bE name)]) ∧ Leaves (RS id g K (bN id N name) L) w G w' := by
  by_cases hbad : nmBad name
  · refine (rblind_no w g name hbad).mono ?_
    rintro e w' ⟨rfl, rfl⟩
    refine ⟨by unfold rV bE; rw [if_pos hbad, if_pos hbad], ?_⟩
    unfold bN
    rw [if_pos hbad]
    exact Leaves.below (RS.foot id g K N L) h (Below.refl _ _)
  · cases id
    · refine (rblind_real h hK name hbad).mono ?_
      rintro e w' ⟨rfl, hB⟩
      refine ⟨by unfold rV bE bB; rw [if_neg hbad, if_neg hbad]; rfl, ?_⟩
      unfold bN
      rw [if_neg hbad]
      exact Leaves.below (RS.foot false g K N L) h hB
    · refine (rblind_ideal h hK name hbad hN).mono ?_
      rintro e w' ⟨rfl, hl⟩
      refine ⟨by unfold rV bE bB; rw [if_neg hbad, if_neg hbad]; rfl, ?_⟩
      unfold bN
      rw [if_neg hbad]
      exact hl
theorem duo_blind (hR : Foot R) (T : Duo w0 X (VS id v sp nm kn K N L) R w) (ht : Tab w0) (hg1 : 2 < w0.heap.size) (A : Option Addr) (n c : Nat) (name : List UInt8) (hn : name.length = n) (hc : n ≤ c) (hcm : c ≤ 9223372036854775807) (hr : Rd w w.heap.size A name) (hN : N.length ≤ 100000) :
    Calls Tryz.prog 10 #[.pointer (some ⟨v, 0, none⟩), .slice A n c] w fun e w' => e = .returned (.tuple #[.agg (rowOf (bV id K N name)), .int .i64 (bE name)]) ∧ Duo w0 X (VS id v sp nm kn K (bN id N name) L) R w' ∧ KeepsX X w w' := by
  obtain ⟨F, G, h⟩ := T
  obtain ⟨t1, t2⟩ := tab_below ht hg1 h.un
  refine (vblind_x h.one A n c name hn hc hcm hr hN t1 t2).mono ?_
  rintro e w' ⟨he, hl⟩
  exact ⟨he, h.act1 hR hl⟩
theorem duo_rblind (hP : Foot P) (T : Duo w0 X P (RS id g K N L) w) (hK : K.length = 32) (name : List UInt8) (hN : N.length ≤ 100000) :
    Calls Tryz.prog 42 #[.pointer (some ⟨g, 0, none⟩), .string (strOf name)] w fun e w' => e = .returned (.tuple #[.string (strOf (rV id K N name)), .int .i64 (bE name)]) ∧ Duo w0 X P (RS id g K (bN id N name) L) w' ∧ KeepsX X w w' := by
  obtain ⟨F, G, h⟩ := T
  refine (rblind_x h.two hK name hN).mono ?_
  rintro e w' ⟨he, hl⟩
  exact ⟨he, h.act2 hP hl⟩
theorem duo_seal (hR : Foot R) (T : Duo w0 X (VS id v sp nm kn K N L) R w) (ht : Tab w0) (hg1 : 2 < w0.heap.size) (Aw B : Option Addr) (na ca nb cb : Nat) (x b : List UInt8) (hx : x.length = na) (hb : b.length = nb) (hrx : Rd w w.heap.size Aw x) (hrb : Rd w w.heap.size B b) (hna : na ≤ 100000) (hnb : nb ≤ 100000) (hcb : nb ≤ cb) (hcm : cb ≤ 9223372036854775807) (e c n : Int) (hLl : L.length ≤ 100000) :
    Calls Tryz.prog 11 #[.pointer (some ⟨v, 0, none⟩), .int .i64 e, .int .i64 c, .int .i64 n, .slice Aw na ca, .slice B nb cb] w fun r w' => ∃ A d, r = .returned (.tuple #[.slice A (sB id K L e c n x b).length d, .int .i64 (sE L e c n)]) ∧ Rd w' w'.heap.size A (sB id K L e c n x b) ∧ (∀ a, A = some a → w.heap.size ≤ a.block) ∧ Duo w0 (fun k => X k ∨ ∃ a, A = some a ∧ a.block = k) (VS id v sp nm kn K N (sL id K L e c n x b)) R w' ∧ KeepsX X w w' := by
  obtain ⟨F, G, h⟩ := T
  obtain ⟨t1, t2⟩ := tab_below ht hg1 h.un
  refine (vseal_x h.one Aw B na ca nb cb x b hx hb hrx hrb hna hnb hcb hcm e c n hLl t1 t2).mono ?_
  rintro r w' ⟨A, d, F', he, hrd, hv, hg, hu, hz⟩
  obtain ⟨k1, k2⟩ := h.act1Z hR hv hg hu (fun k => ∃ a, A = some a ∧ a.block = k) (fun k ⟨a, ea, ek⟩ => by rw [← ek]; exact hz a ea)
  exact ⟨A, d, he, hrd, fun a ea => (hz a ea).1, k1, k2⟩
theorem duo_rseal (hP : Foot P) (T : Duo w0 X P (RS id g K N L) w) (hK : K.length = 32) (e c n : Int) (x b : List UInt8) (hx : x.length ≤ 100000) (hb : b.length ≤ 100000) (hL : L.length ≤ 100000) :
    Calls Tryz.prog 43 #[.pointer (some ⟨g, 0, none⟩), .int .i64 e, .int .i64 c, .int .i64 n, .string (strOf x), .string (strOf b)] w fun r w' => r = .returned (.tuple #[.string (strOf (sB id K L e c n x b)), .int .i64 (sE L e c n)]) ∧ Duo w0 X P (RS id g K N (sL id K L e c n x b)) w' ∧ KeepsX X w w' := by
  obtain ⟨F, G, h⟩ := T
  refine (rseal_x h.two hK e c n x b hx hb hL).mono ?_
  rintro r w' ⟨he, hl⟩
  exact ⟨he, h.act2 hP hl⟩
theorem duo_open (T : Duo w0 X (VS id v sp nm kn K N L) R w) (ht : Tab w0) (hg1 : 2 < w0.heap.size) (hLo : LOk L) (Aw As : Option Addr) (na ca ns cs : Nat) (x s : List UInt8) (hx : x.length = na) (hs : s.length = ns) (hrx : Rd w w.heap.size Aw x) (hrs : Rd w w.heap.size As s) (hna : na ≤ 100000) (hns : ns ≤ 100000) (hcs : ns ≤ cs) (hcm : cs ≤ 9223372036854775807) (e c n : Int) :
    Calls Tryz.prog 12 #[.pointer (some ⟨v, 0, none⟩), .int .i64 e, .int .i64 c, .int .i64 n, .slice Aw na ca, .slice As ns cs] w fun r w' => ∃ A d, r = .returned (.tuple #[.slice A (oB id K L e c n x s).length d, .int .i64 (oE id K L e c n x s)]) ∧ Rd w' w'.heap.size A (oB id K L e c n x s) ∧ Below w.heap.size w w' := by
  obtain ⟨F, G, h⟩ := T
  obtain ⟨t1, t2⟩ := tab_below ht hg1 h.un
  exact vopen_x h.one Aw As na ca ns cs x s hx hs hrx hrs hna hns hcs hcm (fun t hh => by have := (hLo t hh).2.2.2.2.1; omega) e c n t1 t2
theorem duo_ropen (T : Duo w0 X P (RS id g K N L) w) (hK : K.length = 32) (e c n : Int) (x s : List UInt8) (hx : x.length ≤ 100000) (hs : s.length ≤ 100000) (hL : L.length ≤ 100000) :
    Calls Tryz.prog 44 #[.pointer (some ⟨g, 0, none⟩), .int .i64 e, .int .i64 c, .int .i64 n, .string (strOf x), .string (strOf s)] w fun r w' => r = .returned (.tuple #[.string (strOf (oB id K L e c n x s)), .int .i64 (oE id K L e c n x s)]) ∧ Below w.heap.size w w' := by
  obtain ⟨F, G, h⟩ := T
  exact ropen_x h.two hK e c n x s hx hs hL
theorem oB_len (hLo : LOk L) (e c n : Int) (x s : List UInt8) (hs : s.length ≤ 1000) : (oB id K L e c n x s).length ≤ 1000 := by
  unfold oB oT
  split
  · split
    · simp
    · cases id
      · rw [if_neg (by decide)]
        split
        · rw [Option.getD_some, streamB_len, List.length_take]; omega
        · simp
      · rw [if_pos rfl]
        cases hf : L.find? (hitS e.toNat c.toNat n.toNat x s) with
        | none => simp
        | some t =>
          have := (hLo t (List.mem_of_find?_eq_some hf)).2.2.2.2.1
          simp only [Option.map_some, Option.getD_some]
          omega
  · simp
end
/-! A slice whose block may bear a mark: its cells. -/
theorem OwnT.at_ {w : World} {base g n c : Nat} {l : List UInt8} (h : OwnT w base (.slice (some ⟨g, 0, none⟩) n c) l) (i : Nat) (hi : i < l.length) (u : UInt8) :
    w.cell? ⟨g, i, none⟩ = some (.int .u8 ((l.getD i 0).toNat : Int)) ∧ w.frozen? ⟨g, i, none⟩ = false ∧ OwnT (w.setCell ⟨g, i, none⟩ (.int .u8 (u.toNat : Int))) base (.slice (some ⟨g, 0, none⟩) n c) (l.set i u) := by
  have hr := h.rd
  rcases h with ⟨hv, _⟩ | ⟨g', cap, cur, fz, hv, hb, hg, hfz, hle, hm, hsz, htk⟩
  · cases hv
  · injection hv with e1 e2 e3
    injection e1 with e1
    injection e1 with e1
    subst e1 e2 e3
    have hic : i < cur.size := by omega
    have hcell : w.cell? ⟨g, i, none⟩ = some cur[i] := by simp [World.cell?, hg, hic]
    have hci : cur[i] = .int .u8 ((l.getD i 0).toNat : Int) := by
      have h1 : (cur.toList.take l.length)[i]? = (rowOf l).toList[i]? := by rw [htk]
      rw [List.getElem?_take_of_lt hi] at h1
      simp [rowOf, hi, hic] at h1
      rw [h1]
      simp [List.getD, hi]
    refine ⟨by rw [hcell, hci], ?_, .inr ⟨g, c, cur.setIfInBounds i (.int .u8 (u.toNat : Int)), fz, by simp, hb, ?_, by simpa using hfz, by simpa using hle, hm, by simpa using hsz, ?_⟩⟩
    · have h := hfz i hic
      obtain ⟨lo, hi'⟩ := fz
      simp only [World.frozen?, hg, Bool.and_eq_false_iff, decide_eq_false_iff_not]
      simp only at h
      omega
    · rw [setCell_eq_setRow w g i cur _ fz _ hg]
      exact setRow_heap w g cur _ _ fz hg
    · rw [List.length_set, Array.toList_setIfInBounds, List.take_set, htk]
      simp [rowOf, List.map_set]
theorem sizeB_ (W : World) : (sizeOf (Tryz.prog.elem 24)).run Tryz.prog W = .ok 1 W := by
  have he : Tryz.prog.elem 24 = 5 := by kernel_rfl
  rw [he]
  obtain ⟨i, hi, hz, hsize, hby⟩ := info_parts info8
  simp [sizeOf, typeInfo, hi, hsize]
theorem slice_allB (g : Nat) (W : World) :
    (Instr.sliceAt 24 (.pointer (some ⟨g, 0, none⟩)) none none none).run Tryz.prog W = .ok (.slice (some ⟨g, 0, none⟩) 32 32) W := by
  have he : Tryz.prog.elem 24 = 5 := by kernel_rfl
  have hn : Tryz.prog.arrayLen 24 = 32 := by kernel_rfl
  have hs : Tryz.prog.cellsOf (Tryz.prog.elem 24) = 1 := by kernel_rfl
  have ht : Tryz.prog.underlying 24 = some (.array (Tryz.prog.arrayLen 24) (Tryz.prog.elem 24)) := by rw [he, hn]; exact Tryz.underlying24
  rw [run_sliceAt_array_all W 24 ⟨g, 0, none⟩ ht, sizeB_, hn]
  rfl
end Go.Proofs.YthbkbmckmoleiaaGreatDoor
