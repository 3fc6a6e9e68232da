/-
  Numbers by their digits (lists of whole numbers), for the reference's Poly1305. No program is named here.
-/
import Derived.WalkKit
namespace Go.Proofs.Ytopmngjaieobnaa
/-- A number by its digits, the lowest first. -/
def vI : List Int → Int
  | [] => 0
  | d :: l => d + 256 * vI l
def digI : Nat → Int → List Int
  | 0, _ => []
  | n + 1, x => x % 256 :: digI n (x / 256)
theorem digI_len : ∀ (n : Nat) (x : Int), (digI n x).length = n
  | 0, _ => rfl
  | n + 1, x => by simp [digI, digI_len n]
theorem vI_append : ∀ (l m : List Int), vI (l ++ m) = vI l + 256 ^ l.length * vI m
  | [], m => by simp [vI]
  | d :: l, m => by
    have h := vI_append l m
    simp only [List.cons_append, vI, List.length_cons, h, Int.pow_succ]
    grind
theorem vI_zeros : ∀ n : Nat, vI (List.replicate n 0) = 0
  | 0 => rfl
  | n + 1 => by simp [List.replicate_succ, vI, vI_zeros n]
theorem vI_set : ∀ (l : List Int) (i : Nat) (x : Int), i < l.length → vI (l.set i x) = vI l + 256 ^ i * (x - l.getD i 0)
  | [], _, _, h => by simp at h
  | d :: l, 0, x, _ => by simp [vI]; omega
  | d :: l, i + 1, x, h => by
    have h2 := vI_set l i x (by simpa using h)
    simp only [List.set_cons_succ, vI, h2, List.getD_cons_succ, Int.pow_succ]
    grind
theorem vI_take_succ (l : List Int) (i : Nat) (h : i < l.length) : vI (l.take (i + 1)) = vI (l.take i) + 256 ^ i * l.getD i 0 := by
  rw [List.take_succ_eq_append_getElem h, vI_append]
  simp [vI, List.getD, h, Nat.min_eq_left (Nat.le_of_lt h)]
theorem vI_dig : ∀ (n : Nat) (x : Int), vI (digI n x) = x % 256 ^ n
  | 0, x => by simp [vI, digI]
  | n + 1, x => by
    have h := vI_dig n (x / 256)
    simp only [digI, vI, h]
    have h3 : x % (256 * 256 ^ n) = x % 256 + 256 * (x / 256 % 256 ^ n) := by
      have e1 := Int.emod_add_mul_ediv x 256
      have e2 := Int.emod_add_mul_ediv (x / 256) (256 ^ n)
      have hp : (0 : Int) < 256 ^ n := Int.pow_pos (by omega)
      have b1 := Int.emod_nonneg (x / 256) (Int.ne_of_gt hp)
      have b2 := Int.emod_lt_of_pos (x / 256) hp
      have : x = (x % 256 + 256 * (x / 256 % 256 ^ n)) + (256 * 256 ^ n) * (x / 256 / 256 ^ n) := by grind
      conv => lhs; rw [this]
      rw [Int.add_mul_emod_self_left]
      exact Int.emod_eq_of_lt (by omega) (by omega)
    rw [Int.pow_succ, Int.mul_comm (256 ^ n) 256, h3]
/-- Digits of one byte each are those of their number. -/
theorem dig_vI : ∀ l : List Int, (∀ d ∈ l, 0 ≤ d ∧ d < 256) → digI l.length (vI l) = l
  | [], _ => rfl
  | d :: l, h => by
    have h0 := h d (by simp)
    have h2 := dig_vI l fun x hx => h x (by simp [hx])
    simp only [List.length_cons, digI, vI]
    rw [show (d + 256 * vI l) % 256 = d by omega, show (d + 256 * vI l) / 256 = vI l by omega, h2]
theorem dig_range : ∀ (n : Nat) (x : Int), ∀ d ∈ digI n x, 0 ≤ d ∧ d < 256
  | 0, _, _, h => by simp [digI] at h
  | n + 1, x, d, h => by
    simp only [digI, List.mem_cons] at h
    rcases h with rfl | h
    · omega
    · exact dig_range n _ d h
theorem dig_snoc : ∀ (n : Nat) (x : Int), digI (n + 1) x = digI n x ++ [x / 256 ^ n % 256]
  | 0, x => by simp [digI]
  | n + 1, x => by
    have h := dig_snoc n (x / 256)
    rw [digI, h]
    simp only [digI, List.cons_append]
    rw [Int.ediv_ediv_of_nonneg (by omega), Int.pow_succ, Int.mul_comm (256 ^ n) 256]
theorem dig_getD : ∀ (n i : Nat) (x : Int), i < n → (digI n x).getD i 0 = x / 256 ^ i % 256
  | 0, _, _, h => by omega
  | n + 1, 0, x, _ => by simp [digI]
  | n + 1, i + 1, x, h => by
    have h2 := dig_getD n i (x / 256) (by omega)
    simp only [digI, List.getD_cons_succ, h2]
    rw [Int.ediv_ediv_of_nonneg (by omega), Int.pow_succ, Int.mul_comm (256 ^ i) 256]
theorem dig_take : ∀ (n i : Nat) (x : Int), i ≤ n → (digI n x).take i = digI i x
  | _, 0, _, _ => by simp [digI]
  | 0, _ + 1, _, h => by omega
  | n + 1, i + 1, x, h => by simp [digI, dig_take n i (x / 256) (by omega)]
theorem dig_drop : ∀ (n i : Nat) (x : Int), i ≤ n → (digI n x).drop i = digI (n - i) (x / 256 ^ i)
  | n, 0, x, _ => by simp
  | 0, _ + 1, _, h => by omega
  | n + 1, i + 1, x, h => by
    have h2 := dig_drop n i (x / 256) (by omega)
    simp only [digI, List.drop_succ_cons, h2]
    rw [show n + 1 - (i + 1) = n - i by omega, Int.ediv_ediv_of_nonneg (by omega), Int.pow_succ, Int.mul_comm (256 ^ i) 256]
theorem dig_zero : ∀ n : Nat, digI n 0 = List.replicate n 0
  | 0 => rfl
  | n + 1 => by simp [digI, dig_zero n, List.replicate_succ]
/-- More digits than it has. -/
theorem dig_more (n m : Nat) (x : Int) (h0 : 0 ≤ x) (h : x < 256 ^ n) : digI (n + m) x = digI n x ++ List.replicate m 0 := by
  have h1 := dig_take (n + m) n x (by omega)
  have h2 := dig_drop (n + m) n x (by omega)
  rw [Int.ediv_eq_zero_of_lt h0 h, dig_zero, show n + m - n = m by omega] at h2
  rw [← List.take_append_drop n (digI (n + m) x), h1, h2]
theorem dig_mod (n : Nat) (x y : Int) (h : x % 256 ^ n = y % 256 ^ n) : digI n x = digI n y := by
  have h1 := dig_vI (digI n x) (dig_range n x)
  have h2 := dig_vI (digI n y) (dig_range n y)
  rw [digI_len, vI_dig] at h1 h2
  rw [← h1, ← h2, h]

/-- What carry has done behind i digits. -/
def carI (d : List Int) (i : Nat) : List Int := digI i (vI (d.take i)) ++ d.drop i
def ovI (d : List Int) (i : Nat) : Int := vI (d.take i) / 256 ^ i
theorem carI_len (d : List Int) (i : Nat) (h : i ≤ d.length) : (carI d i).length = d.length := by simp [carI, digI_len]; omega
theorem carI_zero (d : List Int) : carI d 0 = d := by simp [carI, digI]
theorem ovI_zero (d : List Int) : ovI d 0 = 0 := by simp [ovI, vI]
theorem carI_end (d : List Int) (i : Nat) (h : d.length = i) : carI d i = digI i (vI d) := by
  subst h; simp [carI]
theorem carI_get (d : List Int) (i : Nat) (h : i < d.length) : (carI d i).getD i 0 = d.getD i 0 := by
  unfold carI
  simp [List.getD, List.getElem?_append, digI_len, h]
theorem sum_div (d : List Int) (i : Nat) (h : i < d.length) : vI (d.take (i + 1)) / 256 ^ i = d.getD i 0 + ovI d i := by
  have hp : (0 : Int) < 256 ^ i := Int.pow_pos (by omega)
  rw [vI_take_succ d i h, Int.add_mul_ediv_left _ _ (Int.ne_of_gt hp), ovI, Int.add_comm]
theorem carI_step (d : List Int) (i : Nat) (h : i < d.length) : (carI d i).set i ((d.getD i 0 + ovI d i) % 256) = carI d (i + 1) := by
  have e : digI i (vI (d.take (i + 1))) = digI i (vI (d.take i)) := dig_mod i _ _ (by
    rw [vI_take_succ d i h, Int.add_mul_emod_self_left])
  have e2 : d.drop i = d.getD i 0 :: d.drop (i + 1) := by
    rw [List.drop_eq_getElem_cons h]; simp [List.getD, h]
  unfold carI
  rw [dig_snoc, e, ← sum_div d i h, e2, List.set_append_right _ _ (by rw [digI_len]; omega), digI_len, Nat.sub_self]
  simp
theorem ovI_step (d : List Int) (i : Nat) (h : i < d.length) : ovI d (i + 1) = (d.getD i 0 + ovI d i) / 256 := by
  have e := sum_div d i h
  rw [← e, Int.ediv_ediv_of_nonneg (Int.pow_nonneg (by omega)), ovI, Int.pow_succ]
def rngI (B : Int) (d : List Int) : Prop := ∀ x ∈ d, 0 ≤ x ∧ x ≤ B
theorem rngI.get {B : Int} {d : List Int} (h : rngI B d) (hB : 0 ≤ B) (i : Nat) : 0 ≤ d.getD i 0 ∧ d.getD i 0 ≤ B := by
  unfold List.getD
  cases hq : d[i]? with
  | none => simp; exact hB
  | some x => exact h x (List.mem_of_getElem? hq)
theorem rngI.mono {B C : Int} {d : List Int} (h : rngI B d) (hB : B ≤ C) : rngI C d := fun x hx => ⟨(h x hx).1, by have := (h x hx).2; omega⟩
theorem rngI.set {B : Int} {d : List Int} (h : rngI B d) (i : Nat) {x : Int} (h0 : 0 ≤ x) (h1 : x ≤ B) : rngI B (d.set i x) := fun y hy => by
  rcases List.mem_or_eq_of_mem_set hy with h2 | h2
  · exact h y h2
  · subst h2; exact ⟨h0, h1⟩
theorem rngI_dig (n : Nat) (x : Int) : rngI 255 (digI n x) := fun d hd => by
  have := dig_range n x d hd; omega
theorem rngI_zeros (n : Nat) {B : Int} (hB : 0 ≤ B) : rngI B (List.replicate n 0) := fun x hx => by
  rw [List.eq_of_mem_replicate hx]; exact ⟨Int.le_refl _, hB⟩
theorem rngI.vnonneg {B : Int} : ∀ {d : List Int}, rngI B d → 0 ≤ vI d
  | [], _ => Int.le_refl _
  | x :: d, h => by
    have h0 := (h x (by simp)).1
    have := rngI.vnonneg (B := B) (d := d) fun y hy => h y (by simp [hy])
    simp only [vI]; omega
theorem ovI_bd (d : List Int) {B : Int} (h : rngI B d) (hB : 0 ≤ B) : ∀ i, i ≤ d.length → 0 ≤ ovI d i ∧ ovI d i ≤ B
  | 0, _ => by rw [ovI_zero]; exact ⟨Int.le_refl _, hB⟩
  | i + 1, hi => by
    have h1 := ovI_bd d h hB i (by omega)
    have h2 := h.get hB i
    rw [ovI_step d i (by omega)]
    omega
/-! ### One fold -/
def foldV (x : Int) : Int := x % 1361129467683753853853498429727072845824 + 5 * (x / 1361129467683753853853498429727072845824)
def hiV (x : Int) : Int := x / 1361129467683753853853498429727072845824
/-- the digits of what is above 2^130. -/
theorem hi_digit (x : Int) (i : Nat) : x / 256 ^ (16 + i) % 256 / 4 + x / 256 ^ (17 + i) % 256 % 4 * 64 = hiV x / 256 ^ i % 256 := by
  have hp : (0 : Int) < 256 ^ i := Int.pow_pos (by omega)
  have e1 : x / 256 ^ (17 + i) = x / 256 ^ (16 + i) / 256 := by
    rw [Int.ediv_ediv_of_nonneg (Int.pow_nonneg (by omega)), ← Int.pow_succ]; congr 2; omega
  have e2 : hiV x / 256 ^ i = x / 256 ^ (16 + i) / 4 := by
    unfold hiV
    rw [Int.ediv_ediv_of_nonneg (by omega), Int.ediv_ediv_of_nonneg (Int.pow_nonneg (by omega)), Int.pow_add]
    congr 1
    have : (256 : Int) ^ 16 * 4 = 1361129467683753853853498429727072845824 := by decide
    grind
  rw [e1, e2]
  omega
theorem hi_top (x : Int) (h0 : 0 ≤ x) (h : x < 256 ^ 34) : x / 256 ^ 33 % 256 / 4 = hiV x / 256 ^ 17 % 256 := by
  have h1 := hi_digit x 17
  have h2 : x / 256 ^ (17 + 17) = 0 := Int.ediv_eq_zero_of_lt h0 h
  rw [h2] at h1
  simpa using h1
theorem hi_lt (x : Int) (h : x < 256 ^ 34) : hiV x < 256 ^ 18 := by
  have : (256:Int) ^ 34 = 7588550360256754183279148073529370729071901715047420004889892225542594864082845696 := by decide
  have h2 : (256:Int) ^ 18 = 22300745198530623141535718272648361505980416 := by decide
  unfold hiV
  omega
theorem hi_nonneg (x : Int) (h : 0 ≤ x) : 0 ≤ hiV x := by unfold hiV; omega
/-- low's digits. -/
theorem low_val (x : Int) : vI (digI 16 x ++ [x / 256 ^ 16 % 256 % 4]) = x % 1361129467683753853853498429727072845824 := by
  rw [vI_append, vI_dig, digI_len]
  have : (256:Int) ^ 16 = 340282366920938463463374607431768211456 := by decide
  rw [this]
  simp only [vI]
  omega
def foldsV : Nat → Int → Int
  | 0, x => x
  | k + 1, x => foldV (foldsV k x)
theorem foldV_mod (x : Int) : foldV x % 1361129467683753853853498429727072845819 = x % 1361129467683753853853498429727072845819 := by
  have : x = foldV x + 1361129467683753853853498429727072845819 * (x / 1361129467683753853853498429727072845824) := by unfold foldV; omega
  conv => rhs; rw [this]
  rw [Int.add_mul_emod_self_left]
theorem foldsV_mod : ∀ (k : Nat) (x : Int), foldsV k x % 1361129467683753853853498429727072845819 = x % 1361129467683753853853498429727072845819
  | 0, _ => rfl
  | k + 1, x => by rw [foldsV, foldV_mod, foldsV_mod k]
theorem foldV_bd (x : Int) (h0 : 0 ≤ x) (h : x < 256 ^ 34) : 0 ≤ foldV x ∧ foldV x < 256 ^ 34 := by
  have : (256:Int) ^ 34 = 7588550360256754183279148073529370729071901715047420004889892225542594864082845696 := by decide
  unfold foldV
  omega
theorem foldsV_bd (x : Int) (h0 : 0 ≤ x) (h : x < 256 ^ 34) : ∀ k, 0 ≤ foldsV k x ∧ foldsV k x < 256 ^ 34
  | 0 => ⟨h0, h⟩
  | k + 1 => foldV_bd _ (foldsV_bd x h0 h k).1 (foldsV_bd x h0 h k).2
theorem foldsV_four (x : Int) (h0 : 0 ≤ x) (h : x < 256 ^ 34) : 0 ≤ foldsV 4 x ∧ foldsV 4 x < 1361129467683753853853498429727072845824 := by
  have : (256:Int) ^ 34 = 7588550360256754183279148073529370729071901715047420004889892225542594864082845696 := by decide
  rw [this] at h
  have f1 : 0 ≤ foldV x ∧ foldV x < 27876000000000000000000000000000000000000000 + 1361129467683753853853498429727072845824 := by unfold foldV; omega
  generalize hy : foldV x = y at f1
  have f2 : 0 ≤ foldV y ∧ foldV y < 200000 + 1361129467683753853853498429727072845824 := by unfold foldV; omega
  generalize hz : foldV y = z at f2
  have f3 : 0 ≤ foldV z ∧ foldV z < 1361129467683753853853498429727072845824 := by unfold foldV; omega
  generalize hu : foldV z = u at f3
  have e : foldsV 4 x = foldV u := by show foldV (foldV (foldV (foldV x))) = _; rw [hy, hz, hu]
  rw [e]
  unfold foldV; omega
/-- Behind four folds it is below the prime, or above it by less than five. -/
theorem less_prime (y : Int) (h0 : 0 ≤ y) (h : y < 1361129467683753853853498429727072845824) : (y < 1361129467683753853853498429727072845819 ∧ y % 1361129467683753853853498429727072845819 = y) ∨
    ∃ e : Fin 5, y = 1361129467683753853853498429727072845819 + (e.val : Int) ∧ y % 1361129467683753853853498429727072845819 = (e.val : Int) := by
  by_cases hp : y < 1361129467683753853853498429727072845819
  · exact .inl ⟨hp, by omega⟩
  · exact .inr ⟨⟨(y - 1361129467683753853853498429727072845819).toNat, by omega⟩, by simp only; omega, by simp only; omega⟩
def subAt (y : Int) (i : Nat) : List Int := (digI 34 (y - 1361129467683753853853498429727072845819)).take i ++ (digI 34 y).drop i
theorem sub_all : ∀ e : Fin 5, ∀ i : Fin 34, (digI 34 (1361129467683753853853498429727072845819 + (e.val : Int))).getD i.val 0 - (digI 34 1361129467683753853853498429727072845819).getD i.val 0 = (digI 34 (e.val : Int)).getD i.val 0 := by decide +kernel
end Go.Proofs.Ytopmngjaieobnaa
