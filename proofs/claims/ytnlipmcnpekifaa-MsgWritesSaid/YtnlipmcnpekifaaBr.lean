/-
  Contracts: the document's own Put and Word over strings.
-/
import Derived.Test.YtnlipmcnpekifaaBB
import Derived.BigCall
namespace Go.Proofs.Ytnlipmcnpekifaa
set_option maxRecDepth 100000
open Go.RowKit

theorem strOf_append (l m : List UInt8) : strOf l ++ strOf m = strOf (l ++ m) := by
  apply ByteArray.ext
  simp [strOf, ByteArray.data_append]

/-- 'string([]byte{x % 256})'. -/
theorem conv_one (y : Nat) (W : World) :
    (convert 30 9 (.slice (some ⟨W.heap.size, 0, none⟩) 1 1)).run Try.prog (W.alloc (.cells #[.int .u8 ((y : Int) % 256)] 5)) = .ok (.string (strOf [UInt8.ofNat (y % 256)])) (W.alloc (.cells #[.int .u8 ((y : Int) % 256)] 5)) := by
  have h := conv_strn ((Blk8.new W [UInt8.ofNat (y % 256)]).rd (Blk8.new W [UInt8.ofNat (y % 256)]).lt) 1 1 rfl
  have e : rowOf [UInt8.ofNat (y % 256)] = #[.int .u8 ((y : Int) % 256)] := by simp [rowOf]
  rw [e] at h
  exact h

theorem lowB_take (n x k : Nat) (hk : k ≤ n) : (lowB n x).take k = lowB k x := by
  unfold lowB
  rw [← List.map_take, List.take_range, Nat.min_eq_left hk]

/-- So many bytes, as Put has them. -/
def putB (high : Bool) (n x : Nat) : List UInt8 := if high then highB n x else lowB n x
theorem putB_succ (high : Bool) (n x : Nat) : putB high (n + 1) x = if high then UInt8.ofNat (x / 256 ^ n % 256) :: putB high n x else putB high n x ++ [UInt8.ofNat (x / 256 ^ n % 256)] := by
  cases high
  · simp [putB, lowB_succ]
  · simp [putB, highB, lowB_succ]

theorem putB_len (high : Bool) (n x : Nat) : (putB high n x).length = n := by
  cases high
  · exact lowB_len n x
  · exact highB_len n x

theorem refPut_any (x n : Nat) (size : Int) (high : Bool) (hx : x ≤ 18446744073709551615) (w0 : -9223372036854775808 ≤ size) (w1 : size ≤ 9223372036854775807)
    (hn : size < 0 ∧ n = 0 ∨ 0 ≤ size ∧ size ≤ 64 ∧ size = (n : Int) ∨ 64 < size ∧ n = 64) (w : World) :
    Calls Try.prog 55 #[.int .u64 x, .int .i64 size, .bool high] w fun e w' => e = .returned (.string (strOf (putB high n x))) ∧ Below w.heap.size w w' := by
  have hn64 : n ≤ 64 := by omega
  have hmin : ∀ k : Nat, k < n → (k : Int) < size ∧ (k : Int) < 64 := by omega
  have hend : 64 ≤ n ∨ size ≤ (n : Int) := by omega
  have HM : Hid (∀ k : Nat, k < n → (k : Int) < size ∧ (k : Int) < 64) := hmin
  have HN : Hid (64 ≤ n ∨ size ≤ (n : Int)) := hend
  clear hmin hend hn
  cases high
  · go_enter Try.func55, Try.ntmps55
    go_wp2
    go_loopw [0, 7, 8, 9] (fun y s i _ wr => ∃ k : Nat, k ≤ n ∧ i = .int .i64 k ∧ y = .int .u64 ((x / 256 ^ k : Nat) : Int) ∧ s = .string (strOf (putB false k x)) ∧ Below w.heap.size w wr) (fun _ _ i _ _ => n - (intOf i).toNat)
    case atStart => exact ⟨0, Nat.zero_le _, rfl, by simp, by rfl, Below.refl _ _⟩
    case round =>
      obtain ⟨k, hk, rfl, rfl, rfl, hbl⟩ := hrel
      have HB : Hid (Below w.heap.size w wr) := hbl
      clear hbl
      have hyl : x / 256 ^ k ≤ 18446744073709551615 := Nat.le_trans (Nat.div_le_self _ _) hx
      have HP : Hid (x / 256 ^ k / 256 = x / 256 ^ (k + 1)) := by
        show _ = _
        rw [Nat.pow_succ, Nat.div_div_eq_div_mul]
      have HS : Hid (_ = _) := putB_succ false k x
      obtain ⟨y, hy⟩ : ∃ y, Hid (x / 256 ^ k = y) := ⟨_, rfl⟩
      rw [hy.out] at hyl HP HS ⊢
      have hcv := conv_one y wr
      by_cases hlt : k < n
      · obtain ⟨hl1, hl2⟩ := HM.out k hlt
        have hd1 : decide ((k : Int) < size) = true := decide_eq_true hl1
        have hd2 : decide ((k : Int) < 64) = true := decide_eq_true hl2
        have hap := strOf_append (putB false k x) [UInt8.ofNat (y % 256)]
        have hs1 : (strOf (putB false k x)).size ≤ 64 := by rw [strOf_size, putB_len]; omega
        have hs2 : (strOf [UInt8.ofNat (y % 256)]).size ≤ 1 := by rw [strOf_size]; simp
        have hap2 := strOf_append [UInt8.ofNat (y % 256)] (putB false k x)
        go_wp2
        go_roundw
        case rel => exact ⟨k + 1, by omega, by go_num, by rw [← HP.out]; rfl, by rw [HS.out]; rfl, HB.out.alloc HB.out.size _⟩
        case measure => simp [intOf]; omega
      · obtain rfl : k = n := by omega
        rcases HN.out with h | h
        · have hd2 : decide ((k : Int) < 64) = false := decide_eq_false (by omega)
          by_cases h3 : (k : Int) < size
          · go_wp2
            go_ret
            exact ⟨rfl, HB.out⟩
          · have hd1 : decide ((k : Int) < size) = false := decide_eq_false h3
            go_wp2
            go_ret
            exact ⟨rfl, HB.out⟩
        · have hd1 : decide ((k : Int) < size) = false := decide_eq_false (by omega)
          go_wp2
          go_ret
          exact ⟨rfl, HB.out⟩
  · go_enter Try.func55, Try.ntmps55
    go_wp2
    go_loopw [0, 7, 8, 9] (fun y s i _ wr => ∃ k : Nat, k ≤ n ∧ i = .int .i64 k ∧ y = .int .u64 ((x / 256 ^ k : Nat) : Int) ∧ s = .string (strOf (putB true k x)) ∧ Below w.heap.size w wr) (fun _ _ i _ _ => n - (intOf i).toNat)
    case atStart => exact ⟨0, Nat.zero_le _, rfl, by simp, by rfl, Below.refl _ _⟩
    case round =>
      obtain ⟨k, hk, rfl, rfl, rfl, hbl⟩ := hrel
      have HB : Hid (Below w.heap.size w wr) := hbl
      clear hbl
      have hyl : x / 256 ^ k ≤ 18446744073709551615 := Nat.le_trans (Nat.div_le_self _ _) hx
      have HP : Hid (x / 256 ^ k / 256 = x / 256 ^ (k + 1)) := by
        show _ = _
        rw [Nat.pow_succ, Nat.div_div_eq_div_mul]
      have HS : Hid (_ = _) := putB_succ true k x
      obtain ⟨y, hy⟩ : ∃ y, Hid (x / 256 ^ k = y) := ⟨_, rfl⟩
      rw [hy.out] at hyl HP HS ⊢
      have hcv := conv_one y wr
      by_cases hlt : k < n
      · obtain ⟨hl1, hl2⟩ := HM.out k hlt
        have hd1 : decide ((k : Int) < size) = true := decide_eq_true hl1
        have hd2 : decide ((k : Int) < 64) = true := decide_eq_true hl2
        have hap := strOf_append (putB true k x) [UInt8.ofNat (y % 256)]
        have hs1 : (strOf (putB true k x)).size ≤ 64 := by rw [strOf_size, putB_len]; omega
        have hs2 : (strOf [UInt8.ofNat (y % 256)]).size ≤ 1 := by rw [strOf_size]; simp
        have hap2 := strOf_append [UInt8.ofNat (y % 256)] (putB true k x)
        go_wp2
        go_roundw
        case rel => exact ⟨k + 1, by omega, by go_num, by rw [← HP.out]; rfl, by rw [HS.out]; rfl, HB.out.alloc HB.out.size _⟩
        case measure => simp [intOf]; omega
      · obtain rfl : k = n := by omega
        rcases HN.out with h | h
        · have hd2 : decide ((k : Int) < 64) = false := decide_eq_false (by omega)
          by_cases h3 : (k : Int) < size
          · go_wp2
            go_ret
            exact ⟨rfl, HB.out⟩
          · have hd1 : decide ((k : Int) < size) = false := decide_eq_false h3
            go_wp2
            go_ret
            exact ⟨rfl, HB.out⟩
        · have hd1 : decide ((k : Int) < size) = false := decide_eq_false (by omega)
          go_wp2
          go_ret
          exact ⟨rfl, HB.out⟩

theorem strOf_get (l : List UInt8) (k : Nat) (h : k < (strOf l).size) : ((strOf l)[k]'h).toNat = (l.getD k 0).toNat := by
  have hl : k < l.length := by rw [strOf_size] at h; exact h
  have e : (strOf l)[k]'h = l[k]'hl := rfl
  rw [e]
  simp [List.getD, hl]

theorem word_step (l m : List UInt8) (k j : Nat) (hk : k < m.length) (h8 : m.length ≤ 8) (h : j < (strOf l).size) (he : (l.getD j 0).toNat = (m.getD k 0).toNat) :
    IntKind.u64.wrap (IntKind.u64.wrap ((beN (m.take k) : Nat) * 256 : Int) + IntKind.u64.wrap (((strOf l)[j]'h).toNat : Int)) = ((beN (m.take (k + 1)) : Nat) : Int) := by
  rw [strOf_get, he]
  have h1 := beN_lt (m.take k)
  have hb := (m.getD k 0).toNat_lt
  rw [List.length_take, Nat.min_eq_left (by omega)] at h1
  have h7 : 256 ^ k ≤ 256 ^ 7 := Nat.pow_le_pow_right (by omega) (by omega)
  have h78 : (256 : Nat) ^ 7 = 72057594037927936 := by decide
  rw [take_snoc8 m k hk, beN_snoc]
  generalize beN (m.take k) = y at *
  generalize (m.getD k 0).toNat = z at *
  rw [IntWalk.u64_in ((y : Int) * 256) (by omega), IntWalk.u64_in (z : Int) (by omega), IntWalk.u64_in _ (by omega)]
  omega

theorem getD_rev (l : List UInt8) (k : Nat) (h : k < l.length) : l.reverse.getD k 0 = l.getD (l.length - 1 - k) 0 := by
  have h2 : l.length - 1 - k < l.length := by omega
  simp [List.getD, h, h2]

theorem refWord_high (l : List UInt8) (n : Nat) (hn : l.length = n) (h8 : n ≤ 8) (w : World) :
    Calls Try.prog 76 #[.string (strOf l), .bool true] w fun e w' => e = .returned (.int .u64 (beN l : Nat)) ∧ w = w' := by
  have hs : (strOf l).size = n := by rw [strOf_size, hn]
  have HL : Hid (l.length = n) := hn
  clear hn
  have HW : Hid (∀ (k : Nat) (h : k < (strOf l).size), k < n → IntKind.u64.wrap (IntKind.u64.wrap ((beN (l.take k) : Nat) * 256 : Int) + IntKind.u64.wrap (((strOf l)[k]'h).toNat : Int)) = ((beN (l.take (k + 1)) : Nat) : Int)) := by
    intro k h hk
    exact word_step l l k k (by rw [HL.out]; exact hk) (by rw [HL.out]; exact h8) h (by rfl)
  go_enter Try.func76, Try.ntmps76
  go_wp2
  go_loop [5, 6, 7] (fun x i _ => ∃ k : Nat, k ≤ n ∧ i = .int .i64 k ∧ x = .int .u64 (beN (l.take k) : Nat)) (fun _ i _ => n - (intOf i).toNat)
  case atStart => exact ⟨0, Nat.zero_le _, rfl, rfl⟩
  case round =>
    obtain ⟨k, hk, rfl, rfl⟩ := hrel
    by_cases hlt : k < n
    · go_wp2
      go_round
      case rel => exact ⟨k + 1, by omega, by go_num, by rw [← HW.out k _ hlt]⟩
      case measure => simp [intOf]; omega
    · obtain rfl : k = n := by omega
      go_wp2
      go_ret
      exact ⟨by rw [List.take_of_length_le (by rw [HL.out]; omega)]; rfl, rfl⟩

theorem refWord_low (l : List UInt8) (n : Nat) (hn : l.length = n) (h8 : n ≤ 8) (w : World) :
    Calls Try.prog 76 #[.string (strOf l), .bool false] w fun e w' => e = .returned (.int .u64 (leN l : Nat)) ∧ w = w' := by
  have hs : (strOf l).size = n := by rw [strOf_size, hn]
  have HL : Hid (l.length = n) := hn
  clear hn
  have HW : Hid (∀ (k : Nat) (h : (n - 1 - k) < (strOf l).size), k < n → IntKind.u64.wrap (IntKind.u64.wrap ((beN (l.reverse.take k) : Nat) * 256 : Int) + IntKind.u64.wrap (((strOf l)[(n - 1 - k)]'h).toNat : Int)) = ((beN (l.reverse.take (k + 1)) : Nat) : Int)) := by
    intro k h hk
    exact word_step l l.reverse k (n - 1 - k) (by rw [List.length_reverse, HL.out]; exact hk) (by rw [List.length_reverse, HL.out]; exact h8) h (by rw [getD_rev l k (by rw [HL.out]; exact hk), HL.out])
  go_enter Try.func76, Try.ntmps76
  go_wp2
  go_loop [5, 6, 7] (fun x i _ => ∃ k : Nat, k ≤ n ∧ i = .int .i64 k ∧ x = .int .u64 (beN (l.reverse.take k) : Nat)) (fun _ i _ => n - (intOf i).toNat)
  case atStart => exact ⟨0, Nat.zero_le _, rfl, rfl⟩
  case round =>
    obtain ⟨k, hk, rfl, rfl⟩ := hrel
    by_cases hlt : k < n
    · go_wp2
      go_round
      case rel => exact ⟨k + 1, by omega, by go_num, by rw [← HW.out k _ hlt]⟩
      case measure => simp [intOf]; omega
    · obtain rfl : k = n := by omega
      go_wp2
      go_ret
      exact ⟨by rw [List.take_of_length_le (by rw [List.length_reverse, HL.out]; omega)]; rfl, rfl⟩
end Go.Proofs.Ytnlipmcnpekifaa
