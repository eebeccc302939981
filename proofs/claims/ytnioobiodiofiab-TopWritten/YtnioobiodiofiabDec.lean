/-
  Texts in base ten: their value; contracts of isText and groupValue.
-/
import Derived.Test.YtnioobiodiofiabTimesPlus
namespace Go.Proofs.Ytnioobiodiofiab
open Go.RowKit

theorem ret_word {a b : Int} (h : a = b) : Ending.returned (.int .u64 a) = .returned (.int .u64 b) := by rw [h]

/-- All are digits. -/
def Decs (l : List UInt8) : Prop := ∀ c, c ∈ l → 48 ≤ (c.toNat : Int) ∧ (c.toNat : Int) ≤ 57
/-- The value of digits. -/
def dval (l : List UInt8) : Int := l.foldl (fun n c => n * 10 + ((c.toNat : Int) - 48)) 0

theorem dval_fold (l : List UInt8) : ∀ a : Int, l.foldl (fun n c => n * 10 + ((c.toNat : Int) - 48)) a = a * 10 ^ l.length + dval l := by
  induction l with
  | nil => intro a; simp [dval]
  | cons c l ih =>
    intro a
    have e : dval (c :: l) = (0 * 10 + ((c.toNat : Int) - 48)) * 10 ^ l.length + dval l := by rw [← ih]; rfl
    rw [List.foldl_cons, ih, e, List.length_cons, Int.pow_succ, Int.add_mul, Int.zero_mul, Int.zero_add, Int.mul_assoc, Int.mul_comm (10 ^ l.length) 10]
    omega
theorem dval_append (l r : List UInt8) : dval (l ++ r) = dval l * 10 ^ r.length + dval r := by
  rw [← dval_fold]; unfold dval; rw [List.foldl_append]
theorem dval_snoc (l : List UInt8) (c : UInt8) : dval (l ++ [c]) = dval l * 10 + ((c.toNat : Int) - 48) := by
  rw [dval_append]; simp [dval]
theorem dval_bd {l : List UInt8} (h : Decs l) : 0 ≤ dval l ∧ dval l < 10 ^ l.length := by
  induction l with
  | nil => simp [dval]
  | cons c l ih =>
    have h1 := h c (by simp)
    have h2 := ih (fun d hd => h d (by simp [hd]))
    have e : dval (c :: l) = ((c.toNat : Int) - 48) * 10 ^ l.length + dval l := by
      have := dval_append [c] l
      simpa [dval] using this
    have hp := pow_pos' (B := 10) (by decide) l.length
    have f1 : 0 * 10 ^ l.length ≤ ((c.toNat : Int) - 48) * 10 ^ l.length := Int.mul_le_mul_of_nonneg_right (by omega) (by omega)
    have f2 : ((c.toNat : Int) - 48) * 10 ^ l.length ≤ 9 * 10 ^ l.length := Int.mul_le_mul_of_nonneg_right (by omega) (by omega)
    rw [e, List.length_cons, Int.pow_succ]
    omega
theorem take_snoc8 (s : ByteArray) (k : Nat) (h : k < s.size) : s.data.toList.take (k + 1) = s.data.toList.take k ++ [s[k]] := by
  rw [List.take_succ_eq_append_getElem (by simpa using h)]; rfl

/-- The form in which numbers are told. -/
def textB (s : ByteArray) : Bool := decide (1 ≤ s.size ∧ s.size ≤ 1240) && (s.data.toList.all (fun c => decide (48 ≤ (c.toNat : Int) ∧ (c.toNat : Int) ≤ 57)) && (decide (s.size = 1) || s.data.toList.headD 0 != 48))

theorem textB_len {s : ByteArray} (h : ¬ (1 ≤ s.size ∧ s.size ≤ 1240)) : textB s = false := by simp [textB, h]
theorem textB_bad {s : ByteArray} {k : Nat} (hk : k < s.size) (h : ¬ (48 ≤ (s[k].toNat : Int) ∧ (s[k].toNat : Int) ≤ 57)) : textB s = false := by
  have : s.data.toList.all (fun c => decide (48 ≤ (c.toNat : Int) ∧ (c.toNat : Int) ≤ 57)) = false := by
    rw [List.all_eq_false]
    refine ⟨s[k], ?_, by simpa using h⟩
    have : s[k] = s.data.toList[k]'(by simpa using hk) := rfl
    rw [this]; exact List.getElem_mem _
  simp only [textB, this, Bool.false_and, Bool.and_false]
theorem textB_all {s : ByteArray} (h : 1 ≤ s.size ∧ s.size ≤ 1240) (hd : Decs s.data.toList) : textB s = (decide (s.size = 1) || s.data.toList.headD 0 != 48) := by
  have : s.data.toList.all (fun c => decide (48 ≤ (c.toNat : Int) ∧ (c.toNat : Int) ≤ 57)) = true := List.all_eq_true.2 fun c hc => by simpa using hd c hc
  simp only [textB, this, Bool.true_and, h, and_self, decide_true]
theorem textB_ok {s : ByteArray} (h : textB s = true) : (1 ≤ s.size ∧ s.size ≤ 1240) ∧ Decs s.data.toList := by
  simp only [textB, Bool.and_eq_true, decide_eq_true_eq] at h
  exact ⟨h.1, fun c hc => by simpa using List.all_eq_true.1 h.2.1 c hc⟩
theorem head_get (l : List UInt8) (h : 0 < l.length) : l.headD 0 = l[0] := by
  cases l with
  | nil => simp at h
  | cons a r => rfl
theorem head8 {s : ByteArray} (h : 0 < s.size) : s.data.toList.headD 0 = s[0] := by
  have : s[0] = s.data.toList[0]'(by simpa using h) := rfl
  rw [this]
  exact head_get _ _

set_option maxHeartbeats 800000 in
theorem isText_any (s : ByteArray) (w : World) (hs : s.size ≤ maxLen) :
    Calls Try.prog 44 #[.string s] w fun e w' => e = .returned (.bool (textB s)) ∧ w' = w := by
  unfold maxLen at hs
  by_cases h0 : s.size = 0
  · have hb : ((s.size : Int) == 0) = true := by simp [h0]
    have HB : Hid (textB s = false) := textB_len (by omega)
    clear h0
    go_enter Try.func44, Try.ntmps44
    go_wp2
    go_ret
    exact ⟨ret_bool HB.out.symm, rfl⟩
  · have hb : ((s.size : Int) == 0) = false := by simp [h0]
    by_cases h1 : (1240 : Int) < (s.size : Int)
    · have HB : Hid (textB s = false) := textB_len (by omega)
      go_enter Try.func44, Try.ntmps44
      go_wp2
      go_ret
      exact ⟨ret_bool HB.out.symm, rfl⟩
    · have hpos : 0 < s.size := by omega
      have hle : s.size ≤ 1240 := by omega
      go_enter Try.func44, Try.ntmps44
      go_wp2
      go_loopw [14] (fun i wr => ∃ k : Nat, k ≤ s.size ∧ i = .int .i64 k ∧ (∀ j (hj : j < s.size), j < k → 48 ≤ (s[j].toNat : Int) ∧ (s[j].toNat : Int) ≤ 57) ∧ wr = w) (fun i _ => s.size - (intOf i).toNat)
      case atStart => exact ⟨0, Nat.zero_le _, rfl, fun j _ hj => by omega, rfl⟩
      case round =>
        obtain ⟨k, hk, rfl, hall, rfl⟩ := hrel
        have HA : Hid (∀ j (hj : j < s.size), j < k → 48 ≤ (s[j].toNat : Int) ∧ (s[j].toNat : Int) ≤ 57) := hall
        clear hall
        by_cases hlt : k < s.size
        · have hki : (k : Int) < (s.size : Int) := by omega
          by_cases hc1 : (s[k].toNat : Int) < 48
          · have HB : Hid (textB s = false) := textB_bad hlt (by omega)
            go_wp2
            go_ret
            exact ⟨ret_bool HB.out.symm, rfl⟩
          · by_cases hc2 : (57 : Int) < (s[k].toNat : Int)
            · have HB : Hid (textB s = false) := textB_bad hlt (by omega)
              go_wp2
              go_ret
              exact ⟨ret_bool HB.out.symm, rfl⟩
            · go_wp2
              go_roundw
              case rel =>
                refine ⟨k + 1, by omega, by go_num, fun j hj h => ?_, by first | rfl | trivial⟩
                by_cases hjk : j < k
                · exact HA.out j hj hjk
                · obtain rfl : j = k := by omega
                  omega
              case measure => simp [intOf]; omega
        · obtain rfl : k = s.size := by omega
          have hd : Decs s.data.toList := fun c hc => by
            obtain ⟨j, hj, rfl⟩ := List.getElem_of_mem hc
            exact HA.out j (by simpa using hj) (by simpa using hj)
          have HB : Hid (textB s = (decide (s.size = 1) || s[0] != 48)) := by
            have e := textB_all (s := s) (by omega) hd
            rw [head8 hpos] at e
            exact e
          clear hd
          by_cases hz : ((s[0].toNat : Int) == 48) = true
          · have e0 : s[0] = 48 := by
              have : (s[0].toNat : Int) = 48 := by simpa using hz
              exact UInt8.toNat_inj.1 (by have h48 : (48 : UInt8).toNat = 48 := rfl; omega)
            by_cases h1s : s.size = 1
            · have hq : ((s.size : Int) == 1) = true := by simp [h1s]
              have hb2 : textB s = true := by rw [HB.out]; simp [h1s]
              have HB2 : Hid (textB s = true) := hb2
              clear HB h1s hb2
              go_wp2
              go_ret
              exact ⟨ret_bool HB2.out.symm, rfl⟩
            · have hq : ((s.size : Int) == 1) = false := by simp; omega
              have hb2 : textB s = false := by rw [HB.out, e0]; simp [h1s]
              have HB2 : Hid (textB s = false) := hb2
              clear HB hb2
              go_wp2
              go_ret
              exact ⟨ret_bool HB2.out.symm, rfl⟩
          · have e0 : s[0] ≠ 48 := fun e => hz (by rw [e]; rfl)
            have hz' : ¬ (s[0].toNat : Int) = 48 := by simpa using hz
            have hb2 : textB s = true := by rw [HB.out]; simp [e0]
            have HB2 : Hid (textB s = true) := hb2
            clear HB hz hb2
            go_wp2
            go_ret
            exact ⟨ret_bool HB2.out.symm, rfl⟩

theorem dec_at {s : ByteArray} (h : Decs s.data.toList) {k : Nat} (hk : k < s.size) : 48 ≤ (s[k].toNat : Int) ∧ (s[k].toNat : Int) ≤ 57 := by
  refine h _ ?_
  have : s[k] = s.data.toList[k]'(by simpa using hk) := rfl
  rw [this]; exact List.getElem_mem _

set_option maxHeartbeats 800000 in
theorem groupValue_any (s : ByteArray) (w : World) (hs : s.size ≤ 19) (hd : Decs s.data.toList) :
    Calls Try.prog 46 #[.string s] w fun e w' => e = .returned (.int .u64 (dval s.data.toList)) ∧ w' = w := by
  have HD : Hid (Decs s.data.toList) := hd
  clear hd
  go_enter Try.func46, Try.ntmps46
  go_wp2
  go_loopw [3, 7] (fun n i wr => ∃ k : Nat, k ≤ s.size ∧ i = .int .i64 k ∧ n = .int .u64 (dval (s.data.toList.take k)) ∧ wr = w) (fun _ i _ => s.size - (intOf i).toNat)
  case atStart => exact ⟨0, Nat.zero_le _, rfl, rfl, rfl⟩
  case round =>
    obtain ⟨k, hk, rfl, rfl, rfl⟩ := hrel
    by_cases hlt : k < s.size
    · have hb := dval_bd (l := s.data.toList.take k) (fun c hc => HD.out c (List.mem_of_mem_take hc))
      have hl : (s.data.toList.take k).length = k := by rw [List.length_take]; simp; omega
      rw [hl] at hb
      have hpm := pow_mono (B := 10) (by decide) (show k ≤ 18 by omega)
      have hsn := dval_snoc (s.data.toList.take k) s[k]
      rw [← take_snoc8 s k hlt] at hsn
      obtain ⟨v, hv⟩ : ∃ v, v = dval (s.data.toList.take k) := ⟨_, rfl⟩
      rw [← hv] at hb hsn ⊢
      have h10 : (10 : Int) ^ 18 = 1000000000000000000 := by decide
      have hvb : 0 ≤ v ∧ v < 1000000000000000000 := ⟨hb.1, by omega⟩
      have hdg := dec_at HD.out hlt
      have HS : Hid (dval (s.data.toList.take (k + 1)) = v * 10 + ((s[k].toNat : Int) - 48)) := hsn
      have hki : (k : Int) < (s.size : Int) := by omega
      clear hb hl hpm hsn hv h10
      go_wp2
      go_roundw
      case rel => exact ⟨k + 1, by omega, by go_num, by rw [HS.out], by first | rfl | trivial⟩
      case measure => simp [intOf]; omega
    · obtain rfl : k = s.size := by omega
      have hfin : s.data.toList.take s.size = s.data.toList := List.take_of_length_le (by simp)
      rw [hfin]
      go_wp2
      go_ret
      exact ⟨rfl, rfl⟩
end Go.Proofs.Ytnioobiodiofiab
