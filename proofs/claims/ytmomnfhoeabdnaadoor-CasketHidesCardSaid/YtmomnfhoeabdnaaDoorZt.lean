/-
  What a vault's calls come to, whatever is asked, of a real one and of an ideal one alike.
-/
import Derived.Test.YtmomnfhoeabdnaaDoorZs
import Derived.Test.YtmomnfhoeabdnaaDoorZa
import Derived.Test.YtmomnfhoeabdnaaDoorZw
namespace Go.Proofs.YtmomnfhoeabdnaaDoor
set_option maxRecDepth 100000
open Go.ChangeShapes Go.WideShapes Go.ChangeAt Go.RowKit
set_option linter.unusedVariables false
set_option linter.unusedSimpArgs false

def cn (t : SealV) : Nat × Nat := (t.c, t.n)
/-- A vault, real or ideal, that sealed L. -/
def VS (id : Bool) (v sp nm kn : Nat) (K : List UInt8) (N : List (List UInt8)) (L : List SealV) (w : World) (F : List Nat) : Prop :=
  match id with
  | true => VltI w v sp nm kn K N (L.map cn) L F
  | false => VltR w v sp K (L.map cn) F
theorem VS.foot (id : Bool) (v sp nm kn : Nat) (K : List UInt8) (N : List (List UInt8)) (L : List SealV) : Foot (VS id v sp nm kn K N L) := by
  cases id
  · exact ⟨fun h => VltR.hF h, fun {w w' F H} h hu hd => VltR.keep h (fun k hk => hu.block k (VltR.hF h k hk) (hd k hk)) hu.size⟩
  · exact ⟨fun h => VltI.hF h, fun h hu hd => VltI.untouched h hu hd⟩
theorem VS.blk {id : Bool} {v sp nm kn : Nat} {K : List UInt8} {N : List (List UInt8)} {L : List SealV} {w : World} {F : List Nat} (h : VS id v sp nm kn K N L w F) :
    ∃ nmo kno, Bk w v 50 (vrow id K (some sp) nmo kno) ∧ K.length = 32 ∧ MapIs w 88 sp (L.map cn).length (fS (L.map cn)) := by
  cases id
  · exact ⟨none, none, VltR.blk h, VltR.len h, VltR.spent h⟩
  · exact ⟨some nm, some kn, VltI.blk h, VltI.len h, VltI.spent h⟩
/-! A name. -/
def nmBad (name : List UInt8) : Prop := name.length = 0 ∨ 64 < name.length
instance (name : List UInt8) : Decidable (nmBad name) := by unfold nmBad; infer_instance
def bE (name : List UInt8) : Int := if nmBad name then 1 else 0
def bB (id : Bool) (K : List UInt8) (N : List (List UInt8)) (name : List UInt8) : List UInt8 := if id then drawB K 0 (ordN N name) 24 else blindK K name
def bN (id : Bool) (N : List (List UInt8)) (name : List UInt8) : List (List UInt8) := if nmBad name then N else if id then addNm N name else N
theorem bB_len (id : Bool) (K : List UInt8) (N : List (List UInt8)) (name : List UInt8) : (bB id K N name).length = 32 := by
  unfold bB
  split
  · exact drawB_len _ _ _ _
  · exact blindK_len _ _
theorem bN_len (id : Bool) (N : List (List UInt8)) (name : List UInt8) : (bN id N name).length ≤ N.length + 1 := by
  unfold bN
  split
  · omega
  · split
    · exact addNm_len _ _
    · omega
/-- What Blind gives. -/
def bV (id : Bool) (K : List UInt8) (N : List (List UInt8)) (name : List UInt8) : List UInt8 := if nmBad name then zbytes 32 else bB id K N name
theorem bV_len (id : Bool) (K : List UInt8) (N : List (List UInt8)) (name : List UInt8) : (bV id K N name).length = 32 := by
  unfold bV
  split
  · exact zbytes_len _
  · exact bB_len _ _ _ _
section
variable {id : Bool} {v sp nm kn : Nat} {K : List UInt8} {N : List (List UInt8)} {L : List SealV} {w : World} {F : List Nat}
theorem vblind_x (h : VS id v sp nm kn K N L w F) (A : Option Addr) (n c : Nat) (name : List UInt8) (hn : name.length = n) (hc : n ≤ c) (hcm : c ≤ 9223372036854775807) (hr : Rd w w.heap.size A name) (hN : N.length ≤ 100000) (ht : Tab w) (hg1 : 0 < w.heap.size) :
    Calls Tryd.prog 14 #[.pointer (some ⟨v, 0, none⟩), .slice A n c] w fun e w' => e = .returned (.tuple #[.agg (rowOf (bV id K N name)), .int .i64 (bE name)]) ∧ Leaves (VS id v sp nm kn K (bN id N name) L) w F w' := by
  obtain ⟨nmo, kno, hb, hK, hs⟩ := h.blk
  by_cases hbad : nmBad name
  · have hbad2 : n = 0 ∨ 64 < n := by rw [← hn]; exact hbad
    refine (vblind_no hb hK A n c hbad2).mono ?_
    rintro e w' ⟨rfl, hB⟩
    refine ⟨by unfold bV bE; rw [if_pos hbad, if_pos hbad], ?_⟩
    unfold bN
    rw [if_pos hbad]
    exact Leaves.below (VS.foot id v sp nm kn K N L) h hB
  · have h1 : 1 ≤ n := by unfold nmBad at hbad; omega
    have h2 : n ≤ 64 := by unfold nmBad at hbad; omega
    cases id
    · refine (vblind_real (VltR.blk h) hK A n c name hn h1 h2 hc hcm hr ht hg1).mono ?_
      rintro e w' ⟨rfl, hB⟩
      refine ⟨by unfold bV bE bB; rw [if_neg hbad, if_neg hbad]; rfl, ?_⟩
      unfold bN
      rw [if_neg hbad]
      exact Leaves.below (VS.foot false v sp nm kn K N L) h hB
    · refine (vblind_yes h A n c name hn h1 h2 hc hcm hr hN ht hg1).mono ?_
      rintro e w' ⟨rfl, hl⟩
      refine ⟨by unfold bV bE bB; rw [if_neg hbad, if_neg hbad]; rfl, ?_⟩
      unfold bN
      rw [if_neg hbad]
      exact ⟨F, hl.1, hl.2.1, hl.2.2⟩
/-! A sealing. -/
def sE (L : List SealV) (e c n : Int) : Int := if slOk e c n then (if (c.toNat, n.toNat) ∈ L.map cn then 13 else 0) else 1
def sO (id : Bool) (K : List UInt8) (L : List SealV) (e c n : Nat) (x b : List UInt8) : List UInt8 := if id then drawB K 1 (L.length + 1) (b.length + 8) else sealB (sealK K e) (nonceB c n) x b
theorem sO_len (id : Bool) (K : List UInt8) (L : List SealV) (e c n : Nat) (x b : List UInt8) : (sO id K L e c n x b).length = b.length + 16 := by
  unfold sO
  split
  · rw [drawB_len]; omega
  · rw [sealB_len]
def sB (id : Bool) (K : List UInt8) (L : List SealV) (e c n : Int) (x b : List UInt8) : List UInt8 := if slOk e c n ∧ (c.toNat, n.toNat) ∉ L.map cn then sO id K L e.toNat c.toNat n.toNat x b else []
def sL (id : Bool) (K : List UInt8) (L : List SealV) (e c n : Int) (x b : List UInt8) : List SealV := if slOk e c n ∧ (c.toNat, n.toNat) ∉ L.map cn then L ++ [⟨e.toNat, c.toNat, n.toNat, x, sO id K L e.toNat c.toNat n.toNat x b, b⟩] else L
theorem sB_len (id : Bool) (K : List UInt8) (L : List SealV) (e c n : Int) (x b : List UInt8) : (sB id K L e c n x b).length ≤ b.length + 16 := by
  unfold sB
  split
  · rw [sO_len]; exact Nat.le_refl _
  · simp
/-- What a Seal leaves: the bytes, apart from the vault's own. -/
def SealX (id : Bool) (v sp nm kn : Nat) (K : List UInt8) (N : List (List UInt8)) (L : List SealV) (w : World) (F : List Nat) (e c n : Int) (x b : List UInt8) (r : Ending) (w' : World) : Prop :=
  ∃ A d F', r = .returned (.tuple #[.slice A (sB id K L e c n x b).length d, .int .i64 (sE L e c n)]) ∧ Rd w' w'.heap.size A (sB id K L e c n x b) ∧ VS id v sp nm kn K N (sL id K L e c n x b) w' F' ∧ Grew w F F' ∧ Untouched F w w' ∧ ∀ a, A = some a → w.heap.size ≤ a.block ∧ a.block < w'.heap.size ∧ a.block ∉ F'
theorem keys_no {nmo kno : Option Nat} (hb : Bk w v 50 (vrow id K (some sp) nmo kno)) (hK : K.length = 32) (e c n : Int) (ht : Tab w) (hg1 : 0 < w.heap.size) (hok : ¬ slOk e c n) :
    Calls Tryd.prog 35 #[.pointer (some ⟨v, 0, none⟩), .int .i64 e, .int .i64 c, .int .i64 n] w fun r w' => r = .returned noKeys ∧ Below w.heap.size w w' := by
  by_cases he : 1 ≤ e ∧ e ≤ 1048576
  · obtain ⟨e, rfl⟩ : ∃ k : Nat, e = (k : Int) := ⟨e.toNat, by omega⟩
    exact keysOf_no2 hb hK e c n (by omega) (by omega) (fun h => hok ⟨he, h⟩) ht hg1
  · exact keysOf_no1 hb hK e c n he
theorem ownX {A : Option Addr} {m d : Nat} {l : List UInt8} {w' : World} {base : Nat} (h : Own8 w' base (.slice A m d) l) : ∀ a, A = some a → base ≤ a.block ∧ a.block < w'.heap.size := fun a e => World.ownsRow.lt h a.block (by rw [e]; rfl)
theorem vseal_x (h : VS id v sp nm kn K N L w F) (Aw B : Option Addr) (na ca nb cb : Nat) (x b : List UInt8) (hx : x.length = na) (hb : b.length = nb) (hrx : Rd w w.heap.size Aw x) (hrb : Rd w w.heap.size B b) (hna : na ≤ 100000) (hnb : nb ≤ 100000) (hcb : nb ≤ cb) (hcm : cb ≤ 9223372036854775807)
    (e c n : Int) (hLl : L.length ≤ 100000) (ht : Tab w) (hg1 : 0 < w.heap.size) :
    Calls Tryd.prog 17 #[.pointer (some ⟨v, 0, none⟩), .int .i64 e, .int .i64 c, .int .i64 n, .slice Aw na ca, .slice B nb cb] w (SealX id v sp nm kn K N L w F e c n x b) := by
  obtain ⟨nmo, kno, hbk, hK, hs⟩ := h.blk
  have no : ∀ (z : Int) (r : Ending) (w' : World), sE L e c n = z → sB id K L e c n x b = [] → sL id K L e c n x b = L → r = .returned (.tuple #[.slice none 0 0, .int .i64 z]) → Below w.heap.size w w' → SealX id v sp nm kn K N L w F e c n x b r w' := by
    intro z r w' h1 h2 h3 h4 h5
    refine ⟨none, 0, F, ?_, ?_, ?_, Grew.refl _ _, .of_below h5, fun a e => by cases e⟩
    · rw [h4, h1, h2]; rfl
    · rw [h2]; exact Rd.nil
    · rw [h3]; exact (VS.foot id v sp nm kn K N L).keep h (Untouched.of_below (F := []) h5) (fun _ _ => by simp)
  by_cases hok : slOk e c n
  · have hok' := hok
    obtain ⟨⟨he1, he2⟩, hc1, hc2, hn1, hn2⟩ := hok'
    obtain ⟨e, rfl⟩ : ∃ k : Nat, e = (k : Int) := ⟨e.toNat, by omega⟩
    obtain ⟨c, rfl⟩ : ∃ k : Nat, c = (k : Int) := ⟨c.toNat, by omega⟩
    obtain ⟨n, rfl⟩ : ∃ k : Nat, n = (k : Int) := ⟨n.toNat, by omega⟩
    have ck := keysOf_yes hbk hK e c n (by omega) (by omega) (by omega) (by omega) (by omega) (by omega) ht hg1
    by_cases hin : (c, n) ∈ L.map cn
    · refine (vseal_spent hbk hK hs Aw B na ca nb cb e c n (by omega) (by omega) hin ck).mono ?_
      rintro r w' ⟨hr, hB⟩
      refine no 13 r w' ?_ ?_ ?_ hr hB
      · unfold sE; rw [if_pos hok, if_pos (show ((c : Int).toNat, (n : Int).toNat) ∈ L.map cn from hin)]
      · unfold sB; rw [if_neg (fun hh => hh.2 hin)]
      · unfold sL; rw [if_neg (fun hh => hh.2 hin)]
    · have hyes : slOk (e : Int) (c : Int) (n : Int) ∧ ((c : Int).toNat, (n : Int).toNat) ∉ L.map cn := ⟨hok, hin⟩
      have e1 : sE L (e : Int) (c : Int) (n : Int) = 0 := by unfold sE; rw [if_pos hok, if_neg (show ((c : Int).toNat, (n : Int).toNat) ∉ L.map cn from hin)]
      have e2 : sB id K L (e : Int) (c : Int) (n : Int) x b = sO id K L e c n x b := by unfold sB; rw [if_pos hyes]; rfl
      have e3 : sL id K L (e : Int) (c : Int) (n : Int) x b = L ++ [⟨e, c, n, x, sO id K L e c n x b, b⟩] := by unfold sL; rw [if_pos hyes]; rfl
      have e4 : (L ++ [(⟨e, c, n, x, sO id K L e c n x b, b⟩ : SealV)]).map cn = L.map cn ++ [(c, n)] := by simp [cn]
      have e5 := sO_len id K L e c n x b
      unfold SealX
      rw [e1, e2, e3, e5, hb]
      cases id
      · refine (vseal_real h Aw B na ca nb cb x b hx hb hrx hrb hna hnb hcb hcm e c n (by omega) (by omega) (by omega) hin (by simpa using hLl) ck).mono ?_
        rintro r w' ⟨A, d, hr, ho, hv, hu⟩
        refine ⟨A, d, F, hr, ho.rd.1, ?_, Grew.refl _ _, hu, fun a ea => ⟨(ownX ho a ea).1, (ownX ho a ea).2, fun hm => ?_⟩⟩
        · show VltR w' v sp K _ F
          rw [e4]
          exact hv
        · have h1 := (ownX ho a ea).1
          have h2 := VltR.hF h a.block hm
          omega
      · refine (vseal_ideal h Aw B na ca nb cb x b hx hb hrx hrb hna hnb e c n (by omega) (by omega) (by omega) hin (by simpa using hLl) hLl ck).mono ?_
        rintro r w' ⟨A, d, F', hr, ho, hni, hl⟩
        have e6 : drawB K 1 ((L.map cn).length + 1) (nb + 8) = sO true K L e c n x b := by unfold sO; rw [if_pos rfl, List.length_map, hb]
        rw [e6] at ho hl
        refine ⟨A, d, F', hr, ho.rd.1, ?_, hl.2.1, hl.2.2, fun a ea => ⟨(ownX ho a ea).1, (ownX ho a ea).2, hni a ea⟩⟩
        show VltI w' v sp nm kn K N _ _ F'
        rw [e4]
        exact hl.1
  · refine (vseal_no Aw B na ca nb cb e c n (keys_no hbk hK e c n ht hg1 hok)).mono ?_
    rintro r w' ⟨hr, hB⟩
    refine no 1 r w' ?_ ?_ ?_ hr hB
    · unfold sE; rw [if_neg hok]
    · unfold sB; rw [if_neg (fun hh => hok hh.1)]
    · unfold sL; rw [if_neg (fun hh => hok hh.1)]
/-! An opening. -/
def hitS (e c n : Nat) (x s : List UInt8) (t : SealV) : Bool := decide (t.e = e) && decide (t.c = c) && decide (t.n = n) && decide (t.x = x) && decide (t.s = s)
theorem hitS_iff {e c n : Nat} {x s : List UInt8} {t : SealV} : hitS e c n x s t = true ↔ t.e = e ∧ t.c = c ∧ t.n = n ∧ t.x = x ∧ t.s = s := by
  simp [hitS, and_assoc]
/-- What an Open comes to, where all is in its bounds: the bytes, or none. -/
def oT (id : Bool) (K : List UInt8) (L : List SealV) (e c n : Nat) (x s : List UInt8) : Option (List UInt8) :=
  if id then (L.find? (hitS e c n x s)).map (·.b) else (if tagB (sealK K e) (nonceB c n) x (s.take (s.length - 16)) = s.drop (s.length - 16) then some (streamB (sealK K e) (nonceB c n) 1 (s.take (s.length - 16))) else none)
def oE (id : Bool) (K : List UInt8) (L : List SealV) (e c n : Int) (x s : List UInt8) : Int := if slOk e c n then (if s.length < 16 then 2 else (if (oT id K L e.toNat c.toNat n.toNat x s).isSome then 0 else 6)) else 1
def oB (id : Bool) (K : List UInt8) (L : List SealV) (e c n : Int) (x s : List UInt8) : List UInt8 := if slOk e c n then (if s.length < 16 then [] else (oT id K L e.toNat c.toNat n.toNat x s).getD []) else []
theorem vcount_x (h : VS id v sp nm kn K N L w F) : Calls Tryd.prog 9 #[.pointer (some ⟨v, 0, none⟩)] w fun e w' => e = .returned (.int .i64 (L.length : Int)) ∧ w = w' := by
  obtain ⟨nmo, kno, hbk, hK, hs⟩ := h.blk
  have hc := count_yes hbk hK hs
  rw [List.length_map] at hc
  exact hc
end
end Go.Proofs.YtmomnfhoeabdnaaDoor
