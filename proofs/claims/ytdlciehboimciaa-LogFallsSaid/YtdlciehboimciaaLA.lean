/-
  Merged: Lga Lgb Lgc.
-/
import Derived.Test.YtdlciehboimciaaDA
import Derived.Test.YtdlciehboimciaaCC
import Derived.Test.YtdlciehboimciaaGG
namespace Go.Proofs.Ytdlciehboimciaa
set_option maxRecDepth 100000
open Go.RowKit
set_option linter.unusedVariables false
set_option linter.unusedSimpArgs false

/-! A record's bytes; a head's. -/
def recB (l : List UInt8) : List UInt8 := closeB (highB 4 l.length ++ l)
theorem recB_len (l : List UInt8) : (recB l).length = l.length + 8 := by
  rw [recB, closeB_len, List.length_append, highB_len]
  omega
def headP (t a c : Nat) : List UInt8 := [108] ++ highB 8 t ++ [UInt8.ofNat a] ++ highB 8 c
theorem headP_len (t a c : Nat) : (headP t a c).length = 18 := by simp [headP, highB_len]
def z42 : List UInt8 := List.replicate 42 0
theorem z42_len : z42.length = 42 := by simp [z42]
def headB (t a c : Nat) : List UInt8 := closeB (headP t a c) ++ z42
theorem headB_len (t a c : Nat) : (headB t a c).length = 64 := by rw [headB, List.length_append, closeB_len, headP_len, z42_len]
/-! How many an area has. -/
def secsA (n : Nat) : Nat := (n - 2) / 2
def roomN (n : Nat) : Nat := secsA n * 64
def firstS (n a : Nat) : Nat := 2 + a * secsA n
section
variable (n : Nat) (h4 : 4 ≤ n) (h9 : n ≤ 8192) (w : World)
include h4 h9
set_option maxRecDepth 100000 in
set_option maxHeartbeats 1000000 in
theorem areaSec_any : Calls Try.prog 52 #[.int .i64 (n : Int)] w fun e w' => e = .returned (.int .i64 (secsA n : Int)) ∧ w = w' := by
  have hw : IntKind.i64.wrap ((n : Int) - 2) = ((n - 2 : Nat) : Int) := by rw [IntWalk.i64_in _ (by omega)]; omega
  have hd : ((n - 2 : Nat) : Int).tdiv 2 = (secsA n : Int) := by rw [Int.tdiv_eq_ediv_of_nonneg (by omega)]; unfold secsA; omega
  have hw2 : IntKind.i64.wrap (((n - 2 : Nat) : Int).tdiv 2) = (secsA n : Int) := by rw [hd, IntWalk.i64_in _ (by unfold secsA; omega)]
  have hv : wrap64 (secsA n : Int) = (secsA n : Int) := IntWalk.wrap64_in _ (by unfold secsA; omega)
  generalize secsA n = s at *
  generalize ((n - 2 : Nat) : Int) = m at *
  generalize (n : Int) = z at *
  clear h4 h9
  go_enter Try.func52, Try.ntmps52
  go_wp2
  go_ret
  refine ⟨?_, rfl⟩
  show Ending.returned (Value.int IntKind.i64 (wrap64 (s : Int))) = _
  rw [hv]
set_option maxRecDepth 100000 in
set_option maxHeartbeats 1000000 in
theorem firstSec_any (a : Nat) (ha : a ≤ 1) : Calls Try.prog 44 #[.int .i64 (n : Int), .int .i64 (a : Int)] w fun e w' => e = .returned (.int .i64 (firstS n a : Int)) ∧ w = w' := by
  have ci := areaSec_any n h4 h9 w
  have hb : secsA n ≤ 4096 := by unfold secsA; omega
  have hm : IntKind.i64.wrap ((a : Int) * (secsA n : Int)) = ((a * secsA n : Nat) : Int) := by
    have : a * secsA n ≤ 1 * 4096 := Nat.mul_le_mul ha hb
    rw [IntWalk.i64_in _ (by constructor <;> push_cast at * <;> omega)]
    push_cast
    rfl
  have hs : IntKind.i64.wrap (2 + ((a * secsA n : Nat) : Int)) = (firstS n a : Int) := by
    have : a * secsA n ≤ 1 * 4096 := Nat.mul_le_mul ha hb
    rw [IntWalk.i64_in _ (by omega)]
    unfold firstS
    omega
  have v3 : wrap64 (secsA n : Int) = (secsA n : Int) := IntWalk.wrap64_in _ (by omega)
  generalize firstS n a = f at *
  generalize ((a * secsA n : Nat) : Int) = m at *
  generalize secsA n = s at *
  generalize (a : Int) = b at *
  generalize (n : Int) = z at *
  clear h4 h9 hb ha
  go_enter Try.func44, Try.ntmps44
  go_wp2_with (go_at_call 52; ((with_reducible refine ci.mono ?_); clear ci; rintro e w' ⟨rfl, rfl⟩))
  go_ret
  exact ⟨rfl, rfl⟩
end
theorem run_minI (x y m : Int) (hm : m = min x y) (w : World) (ts : Array TypeId) (t : TypeId) :
    (Builtin.min_ ts t #[.int .i64 x, .int .i64 y]).run Try.prog w = .ok (.int .i64 m) w := by
  simp [Builtin.min_, Builtin.min2]
  repeat' split
  all_goals omega
set_option maxRecDepth 100000 in
set_option maxHeartbeats 1000000 in
theorem room_any (n : Nat) (h4 : 4 ≤ n) (h9 : n ≤ 8192) (w : World) : Calls Try.prog 34 #[.int .i64 (n : Int)] w fun e w' => e = .returned (.int .i64 (roomN n : Int)) ∧ w = w' := by
  have ci := areaSec_any n h4 h9 w
  have hb : secsA n ≤ 4096 := by unfold secsA; omega
  have d1 : decide ((n : Int) < 4) = false := decide_eq_false (by omega)
  have hm := fun W ts t => run_minI (secsA n : Int) 144115188075855871 (secsA n : Int) (by omega) W ts t
  have hw : IntKind.i64.wrap ((secsA n : Int) * 64) = (roomN n : Int) := by
    rw [IntWalk.i64_in _ (by omega)]
    unfold roomN
    push_cast
    rfl
  generalize roomN n = r at *
  generalize secsA n = s at *
  generalize (n : Int) = z at *
  clear h4 h9 hb
  go_enter Try.func34, Try.ntmps34
  go_wp2_with (go_at_call 52; ((with_reducible refine ci.mono ?_); clear ci; rintro e w' ⟨rfl, rfl⟩))
  go_ret
  exact ⟨rfl, rfl⟩
set_option maxRecDepth 100000 in
set_option maxHeartbeats 1000000 in
theorem lsize_any (A : Option Addr) (n c : Nat) (hn : n ≤ 1000000) (w : World) : Calls Try.prog 33 #[.slice A n c] w fun e w' => e = .returned (.int .i64 ((n + 8 : Nat) : Int)) ∧ w = w' := by
  have h1 : IntKind.i64.wrap (4 + (n : Int)) = 4 + (n : Int) := by rw [IntWalk.i64_in _ (by omega)]
  have h2 : IntKind.i64.wrap (4 + (n : Int) + 4) = ((n + 8 : Nat) : Int) := by rw [IntWalk.i64_in _ (by omega)]; omega
  have h3 : wrap64 (4 + (n : Int)) = 4 + (n : Int) := IntWalk.wrap64_in _ (by omega)
  have h4 : wrap64 (4 + (n : Int) + 4) = ((n + 8 : Nat) : Int) := by rw [IntWalk.wrap64_in _ (by omega)]; omega
  generalize ((n + 8 : Nat) : Int) = z at *
  clear hn
  go_enter Try.func33, Try.ntmps33
  go_wp2
  go_ret
  exact ⟨rfl, rfl⟩
end Go.Proofs.Ytdlciehboimciaa

namespace Go.Proofs.Ytdlciehboimciaa
set_option maxRecDepth 100000
open Go.RowKit
set_option linter.unusedVariables false
set_option linter.unusedSimpArgs false

def hd1 (D : List UInt8) : Int × List UInt8 × Int := numS 1 108 D 0
def hd2 (D : List UInt8) : Int × List UInt8 × Int := numS 8 9223372036854775807 (hd1 D).2.1 (hd1 D).2.2
def hd3 (D : List UInt8) : Int × List UInt8 × Int := numS 1 1 (hd2 D).2.1 (hd2 D).2.2
def hd4 (room : Nat) (D : List UInt8) : Int × List UInt8 × Int := numS 8 (room : Int) (hd3 D).2.1 (hd3 D).2.2
/-- Turn, area and count. -/
def hdT (D : List UInt8) : Nat := (hd2 D).1.toNat
def hdA (D : List UInt8) : Nat := (hd3 D).1.toNat
def hdC (room : Nat) (D : List UInt8) : Nat := (hd4 room D).1.toNat
theorem numS_range (size : Nat) (most : Int) (l : List UInt8) (err : Int) (hm : 0 ≤ most) : 0 ≤ (numS size most l err).1 ∧ (numS size most l err).1 ≤ most := by
  unfold numS
  split
  · exact ⟨Int.le_refl _, hm⟩
  · split
    · exact ⟨Int.le_refl _, hm⟩
    · split
      · exact ⟨Int.le_refl _, hm⟩
      · exact ⟨by simp, by omega⟩
theorem hdT_eq (D : List UInt8) : (hd2 D).1 = (hdT D : Int) ∧ hdT D ≤ 9223372036854775807 := by
  have := numS_range 8 9223372036854775807 (hd1 D).2.1 (hd1 D).2.2 (by omega)
  unfold hdT
  unfold hd2
  omega
theorem hdA_eq (D : List UInt8) : (hd3 D).1 = (hdA D : Int) ∧ hdA D ≤ 1 := by
  have := numS_range 1 1 (hd2 D).2.1 (hd2 D).2.2 (by omega)
  unfold hdA
  unfold hd3
  omega
theorem hdC_eq (room : Nat) (D : List UInt8) : (hd4 room D).1 = (hdC room D : Int) ∧ hdC room D ≤ room := by
  have := numS_range 8 (room : Int) (hd3 D).2.1 (hd3 D).2.2 (by omega)
  unfold hdC
  unfold hd4
  omega
theorem beN_one (a : Nat) (ha : a < 256) : beN [UInt8.ofNat a] = a := by
  have h := beN_highB 1 a
  have e : highB 1 a = [UInt8.ofNat a] := by simp [highB, lowB]; rw [Nat.mod_eq_of_lt ha]
  rw [e] at h
  rw [h]
  omega
theorem numS_at (size : Nat) (most : Int) (x m : List UInt8) (k : Nat) (hx : x.length = size) (hb : beN x = k) (hk : (k : Int) ≤ most) : numS size most (x ++ m) 0 = ((k : Int), m, 0) := by
  have ht : (x ++ m).take size = x := by rw [← hx]; exact List.take_left
  have hd : (x ++ m).drop size = m := by rw [← hx]; exact List.drop_left
  rw [numS_yes (by rw [List.length_append]; omega) (by rw [ht, hb]; omega), ht, hd, hb]
/-- A head's sector tells its head. -/
theorem hd_head (t a c room : Nat) (ht : t ≤ 9223372036854775807) (ha : a ≤ 1) (hc : c ≤ room) (hr : room ≤ 1000000) : hdT (headB t a c) = t ∧ hdA (headB t a c) = a ∧ hdC room (headB t a c) = c := by
  obtain ⟨m, hm⟩ : ∃ m, headB t a c = [108] ++ (highB 8 t ++ ([UInt8.ofNat a] ++ (highB 8 c ++ m))) := ⟨lowB 4 (crcV (headP t a c)).toNat ++ z42, by simp [headB, closeB, headP]⟩
  rw [hm]
  have e1 : hd1 ([108] ++ (highB 8 t ++ ([UInt8.ofNat a] ++ (highB 8 c ++ m)))) = (108, highB 8 t ++ ([UInt8.ofNat a] ++ (highB 8 c ++ m)), 0) := numS_at 1 108 [108] _ 108 rfl (beN_one 108 (by omega)) (by omega)
  have e2 : hd2 ([108] ++ (highB 8 t ++ ([UInt8.ofNat a] ++ (highB 8 c ++ m)))) = ((t : Int), [UInt8.ofNat a] ++ (highB 8 c ++ m), 0) := by
    unfold hd2
    rw [e1]
    exact numS_at 8 _ (highB 8 t) _ t (highB_len _ _) (by rw [beN_highB]; exact Nat.mod_eq_of_lt (by omega)) (by omega)
  have e3 : hd3 ([108] ++ (highB 8 t ++ ([UInt8.ofNat a] ++ (highB 8 c ++ m)))) = ((a : Int), highB 8 c ++ m, 0) := by
    unfold hd3
    rw [e2]
    exact numS_at 1 _ [UInt8.ofNat a] _ a rfl (beN_one a (by omega)) (by omega)
  have e4 : hd4 room ([108] ++ (highB 8 t ++ ([UInt8.ofNat a] ++ (highB 8 c ++ m)))) = ((c : Int), m, 0) := by
    unfold hd4
    rw [e3]
    exact numS_at 8 _ (highB 8 c) _ c (highB_len _ _) (by rw [beN_highB]; exact Nat.mod_eq_of_lt (by omega)) (by omega)
  refine ⟨?_, ?_, ?_⟩
  · unfold hdT; rw [e2]; simp
  · unfold hdA; rw [e3]; simp
  · unfold hdC; rw [e4]; simp
theorem head_zero (t a c : Nat) : headB t a c ≠ zsec := by
  intro h
  have := congrArg List.head? h
  simp [headB, closeB, headP, zsec, List.replicate_succ] at this
/-- Is a sector a head's that may be number i's, later than a turn? -/
def hdIs (room i t : Nat) (D : List UInt8) : Bool := (D == headB (hdT D) (hdA D) (hdC room D)) && (decide (hdT D % 2 = i) && decide (t < hdT D))
/-- The last head that two sectors tell. -/
def lastV (room : Nat) (D0 D1 : List UInt8) : Nat × Nat × Nat :=
  let x := if hdIs room 0 0 D0 = true then (hdT D0, hdA D0, hdC room D0) else (0, 0, 0)
  if hdIs room 1 x.1 D1 = true then (hdT D1, hdA D1, hdC room D1) else x
def hdRow (x : Nat × Nat × Nat) : Array Value := #[.int .i64 (x.1 : Int), .int .i64 (x.2.1 : Int), .int .i64 (x.2.2 : Int)]
theorem hdIs_zero (room i t : Nat) : hdIs room i t zsec = false := by
  unfold hdIs
  have h : (zsec == headB (hdT zsec) (hdA zsec) (hdC room zsec)) = false := by
    simp only [beq_eq_false_iff_ne, ne_eq]
    exact fun h => head_zero _ _ _ h.symm
  rw [h]
  rfl
theorem hdIs_head (room i s t a c : Nat) (ht : t ≤ 9223372036854775807) (ha : a ≤ 1) (hc : c ≤ room) (hr : room ≤ 1000000) : hdIs room i s (headB t a c) = (decide (t % 2 = i) && decide (s < t)) := by
  obtain ⟨e1, e2, e3⟩ := hd_head t a c room ht ha hc hr
  unfold hdIs
  rw [e1, e2, e3]
  simp
end Go.Proofs.Ytdlciehboimciaa

namespace Go.Proofs.Ytdlciehboimciaa
set_option maxRecDepth 100000
open Go.RowKit
set_option linter.unusedVariables false
set_option linter.unusedSimpArgs false

/-- A record and its check, as they are taken. -/
def rcA (N : Nat) (l : List UInt8) (e : Int) : List UInt8 × List UInt8 × Int := fixS (numS 4 (N : Int) l e).1 (numS 4 (N : Int) l e).2.1 (numS 4 (N : Int) l e).2.2
def rcB (N : Nat) (l : List UInt8) (e : Int) : List UInt8 × List UInt8 × Int := fixS 4 (rcA N l e).2.1 (rcA N l e).2.2
def crcL (r : List UInt8) : List UInt8 := lowB 4 (crcV (highB 4 r.length ++ r)).toNat
theorem crcL_len (r : List UInt8) : (crcL r).length = 4 := by simp [crcL, lowB_len]
theorem recB_eq (r : List UInt8) : recB r = highB 4 r.length ++ r ++ crcL r := rfl
theorem recB_drop (r : List UInt8) : (recB r).drop (4 + r.length) = crcL r := by
  rw [recB_eq]
  exact List.drop_left' (by rw [List.length_append, highB_len])
/-- The records, in at most so many steps. -/
def recsL : Nat → Nat → List UInt8 → Int → List (List UInt8)
  | 0, _, _, _ => []
  | k + 1, N, l, e => if (rcB N l e).1 = crcL (rcA N l e).1 then (rcA N l e).1 :: recsL k N (rcB N l e).2.1 (rcB N l e).2.2 else []
def recsV (l : List UInt8) : List (List UInt8) := recsL (l.length + 1) l.length l 0
theorem fixS_at (x m : List UInt8) (h : 0 < x.length) : fixS (x.length : Int) (x ++ m) 0 = (x, m, 0) := by
  have h1 : ¬ ((x.length : Int) ≤ 0) := by omega
  have h2 : ¬ (((x ++ m).length : Int) < (x.length : Int)) := by rw [List.length_append]; omega
  unfold fixS
  rw [if_neg (fun hh => hh.elim (fun e => e rfl) h1), if_neg h2, Int.toNat_natCast, List.take_left, List.drop_left]
theorem fixS_none (l : List UInt8) (e : Int) : fixS 0 l e = ([], l, e) := fixS_off (.inr (by omega))
/-- A record, with whatever behind it. -/
theorem rc_rec (N : Nat) (r m : List UInt8) (hr : r.length ≤ N) (h32 : r.length < 4294967296) : rcA N (recB r ++ m) 0 = (r, crcL r ++ m, 0) ∧ rcB N (recB r ++ m) 0 = (crcL r, m, 0) := by
  have e0 : recB r ++ m = highB 4 r.length ++ (r ++ (crcL r ++ m)) := by simp [recB_eq]
  have e1 : numS 4 (N : Int) (recB r ++ m) 0 = ((r.length : Int), r ++ (crcL r ++ m), 0) := by
    rw [e0]
    exact numS_at 4 _ (highB 4 r.length) _ r.length (highB_len _ _) (by rw [beN_highB]; exact Nat.mod_eq_of_lt (by omega)) (by omega)
  have e2 : rcA N (recB r ++ m) 0 = (r, crcL r ++ m, 0) := by
    unfold rcA
    rw [e1]
    rcases Nat.eq_zero_or_pos r.length with h | h
    · have hr0 : r = [] := List.eq_nil_of_length_eq_zero h
      subst hr0
      exact fixS_none _ _
    · exact fixS_at r _ h
  refine ⟨e2, ?_⟩
  unfold rcB
  rw [e2]
  have h4 := fixS_at (crcL r) m (by rw [crcL_len]; omega)
  rw [crcL_len] at h4
  exact h4
theorem recsL_rec (k N : Nat) (r m : List UInt8) (hr : r.length ≤ N) (h32 : r.length < 4294967296) : recsL (k + 1) N (recB r ++ m) 0 = r :: recsL k N m 0 := by
  obtain ⟨e1, e2⟩ := rc_rec N r m hr h32
  show (if (rcB N (recB r ++ m) 0).1 = crcL (rcA N (recB r ++ m) 0).1 then (rcA N (recB r ++ m) 0).1 :: recsL k N (rcB N (recB r ++ m) 0).2.1 (rcB N (recB r ++ m) 0).2.2 else []) = _
  rw [e1, e2, if_pos rfl]
theorem recsL_nil (k N : Nat) : recsL k N [] 0 = [] := by
  cases k with
  | zero => rfl
  | succ k =>
    have e1 : numS 4 (N : Int) ([] : List UInt8) 0 = (0, [], 3) := numS_short (by simp)
    have e2 : rcA N [] 0 = ([], [], 3) := by
      unfold rcA
      rw [e1]
      exact fixS_none _ _
    have e3 : rcB N [] 0 = ([], [], 3) := by
      unfold rcB
      rw [e2]
      exact fixS_off (.inl (by decide))
    unfold recsL
    rw [e3]
    rw [if_neg]
    intro h
    have := congrArg List.length h
    rw [crcL_len] at this
    simp at this
/-- All bytes of records. -/
def allB (R : List (List UInt8)) : List UInt8 := (R.map recB).flatten
theorem allB_nil : allB [] = [] := rfl
theorem allB_cons (r : List UInt8) (R : List (List UInt8)) : allB (r :: R) = recB r ++ allB R := rfl
theorem allB_snoc (R : List (List UInt8)) (r : List UInt8) : allB (R ++ [r]) = allB R ++ recB r := by simp [allB]
theorem allB_append (R S : List (List UInt8)) : allB (R ++ S) = allB R ++ allB S := by simp [allB]
theorem recsL_all : ∀ (R : List (List UInt8)) (k N : Nat), R.length ≤ k → (∀ r ∈ R, r.length ≤ N ∧ r.length < 4294967296) → recsL k N (allB R) 0 = R
  | [], k, N, _, _ => recsL_nil k N
  | r :: R, 0, N, h, _ => absurd h (by simp)
  | r :: R, k + 1, N, h, hr => by
    rw [allB_cons, recsL_rec k N r _ (hr r (by simp)).1 (hr r (by simp)).2, recsL_all R k N (by simpa using h) (fun x hx => hr x (List.mem_cons_of_mem _ hx))]
theorem allB_len (R : List (List UInt8)) : R.length * 8 ≤ (allB R).length ∧ ∀ r ∈ R, r.length + 8 ≤ (allB R).length := by
  induction R with
  | nil => exact ⟨by simp, fun _ h => by cases h⟩
  | cons r R ih =>
    rw [allB_cons, List.length_append, recB_len]
    refine ⟨by simp only [List.length_cons]; omega, fun x hx => ?_⟩
    rcases List.mem_cons.1 hx with h | h
    · subst h; omega
    · have := ih.2 x h; omega
/-- What was written is what is found. -/
theorem recsV_all (R : List (List UInt8)) (h : (allB R).length < 4294967296) : recsV (allB R) = R := by
  obtain ⟨h1, h2⟩ := allB_len R
  exact recsL_all R _ _ (by omega) fun r hr => by have := h2 r hr; omega
end Go.Proofs.Ytdlciehboimciaa
