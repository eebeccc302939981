/-
  The contract of nat.Parse: the number of a text in base ten.
-/
import Derived.Test.YtnioobiodiofiabDec
import Derived.Test.YtnioobiodiofiabSub
namespace Go.Proofs.Ytnioobiodiofiab
open Go.RowKit

/-- What is told of a text. -/
def ResParse (s : ByteArray) (ls : List Int) (err : Int) : Prop := if textB s then Res (dval s.data.toList) ls err else err = 5 ∧ ls = []

theorem ResParse.unique {s : ByteArray} {ls ks : List Int} {e f : Int} (h : ResParse s ls e) (h' : ResParse s ks f) : ls = ks ∧ e = f := by
  unfold ResParse at h h'
  split at h
  · rename_i hc
    rw [if_pos hc] at h'
    exact h.unique h'
  · rename_i hc
    rw [if_neg hc] at h'
    exact ⟨h.2.trans h'.2.symm, h.1.trans h'.1.symm⟩

def strSize : Value → Nat
  | .string b => b.size
  | _ => 0

theorem ext_list (r : ByteArray) (i j : Nat) : (r.extract i j).data.toList = (r.data.toList.drop i).take (j - i) := by
  simp [ByteArray.data_extract, Array.toList_extract, List.extract]
theorem ext_size (r : ByteArray) (i j : Nat) (hj : j ≤ r.size) : (r.extract i j).size = j - i := by
  have e : (r.extract i j).size = (r.extract i j).data.toList.length := by rw [Array.length_toList]; rfl
  have e2 : r.data.toList.length = r.size := by simp
  rw [e, ext_list, List.length_take, List.length_drop, e2]; omega

theorem pow_left (n : Nat) : (10000000000000000000 : Int) ^ n ≤ 18446744073709551616 ^ n := by
  induction n with
  | zero => decide
  | succ n ih =>
    rw [Int.pow_succ, Int.pow_succ]
    have hp := pow_pos' (B := 10000000000000000000) (by decide) n
    have f1 : (10000000000000000000 : Int) ^ n * 10000000000000000000 ≤ 18446744073709551616 ^ n * 10000000000000000000 := Int.mul_le_mul_of_nonneg_right ih (by decide)
    have f2 : (18446744073709551616 : Int) ^ n * 10000000000000000000 ≤ 18446744073709551616 ^ n * 18446744073709551616 := Int.mul_le_mul_of_nonneg_left (by decide) (by omega)
    omega

/-- One group more. -/
theorem parse_step {l : List UInt8} {j sz n : Nat} {c : Int} (hd : Decs l) (hl : j + sz ≤ l.length) (hn : l.length ≤ 19 * n) (hm : j = 0 ∨ sz = 19) (hc : c = dval ((l.drop j).take sz)) :
    10000000000000000000 * dval (l.take j) + c = dval (l.take (j + sz)) ∧ dval (l.take (j + sz)) < 18446744073709551616 ^ n := by
  have e : dval (l.take (j + sz)) = dval (l.take j) * 10 ^ sz + c := by
    rw [List.take_add, dval_append, ← hc, List.length_take, List.length_drop, Nat.min_eq_left (by omega)]
  refine ⟨?_, ?_⟩
  · rw [e]
    rcases hm with rfl | rfl
    · simp [dval]
    · rw [show (10 : Int) ^ 19 = 10000000000000000000 by decide, Int.mul_comm]
  · have b := dval_bd (l := l.take (j + sz)) (fun d hd' => hd d (List.mem_of_mem_take hd'))
    have h1 := pow_mono (B := 10) (by decide) (show (l.take (j + sz)).length ≤ 19 * n by rw [List.length_take]; omega)
    have h2 : (10 : Int) ^ (19 * n) = 10000000000000000000 ^ n := by rw [Int.pow_mul]; congr 1
    have h3 := pow_left n
    omega

theorem no_carry {v P cy x : Int} (h : v + P * cy = x) (hx : x < P) (hP : 0 < P) (hv : 0 ≤ v) (hc : 0 ≤ cy) : v = x := by
  by_cases h0 : cy = 0
  · subst h0; omega
  · have : P * 1 ≤ P * cy := Int.mul_le_mul_of_nonneg_left (by omega) (by omega)
    omega

set_option maxHeartbeats 1600000 in
theorem parse_any (s : ByteArray) (w : World) (hs : s.size ≤ maxLen) :
    Calls Try.prog 21 #[.string s] w fun e w' => ∃ a' n cap' ls err, e = .returned (.tuple #[.slice a' n cap', .int .i64 err]) ∧ Nums w' a' n cap' ls ∧ ResParse s ls err ∧ Below w.heap.size w w' := by
  cases ht : textB s with
  | false =>
    have HP : Hid (ResParse s [] 5) := (show ResParse s [] 5 by simp [ResParse, ht])
    go_enter Try.func21, Try.ntmps21
    go_wp2_with fail
    refine (isText_any s _ hs).mono ?_
    rintro e w0 ⟨rfl, hw0⟩
    subst hw0
    rw [ht]
    go_wp2_with fail
    go_ret2
    exact ⟨none, 0, 0, [], 5, rfl, Nums.nil _, HP.out, Below.refl _ _⟩
  | true =>
    obtain ⟨hsz, hdec⟩ := textB_ok ht
    have HD : Hid (Decs s.data.toList) := hdec
    have HP : Hid (∀ ls err, Res (dval s.data.toList) ls err → ResParse s ls err) := fun ls err h => (show ResParse s ls err by rw [ResParse, ht, if_pos rfl]; exact h)
    have HT : Hid (textB s = true) := ht
    clear hdec ht
    obtain ⟨n, hn⟩ : ∃ n : Nat, n = (s.size + 18) / 19 := ⟨_, rfl⟩
    have hni : ((s.size : Int) + 19 - 1) / 19 = (n : Int) := by omega
    have hnb : n ≤ 100 ∧ s.size ≤ 19 * n := by omega
    clear hn
    go_enter Try.func21, Try.ntmps21
    go_wp2_with fail
    refine (isText_any s _ hs).mono ?_
    rintro e w0 ⟨rfl, hw0⟩
    subst hw0
    rw [HT.out]
    go_wp2_with (at_make; refine wpList_mk _ rfl _ _ 23 rfl Try.underlying23 .i64 .i64 _ _ n rfl rfl (by omega) (by omega) (by omega) ?_)
    intro w1 hb1 hbel hsz1
    have HN : Hid ((noughts n).length = n ∧ Digs 18446744073709551616 (noughts n) ∧ val 18446744073709551616 (noughts n) = 0) := ⟨length_noughts _, fun x hx => by rw [(List.mem_replicate.1 hx).2]; omega, val_zeros _ (fun x hx => (List.mem_replicate.1 hx).2)⟩
    clear hsz1 hni
    go_wp2
    go_loopw [0] (fun sv wr => ∃ r : ByteArray, sv = .string r ∧ ∃ j : Nat, j ≤ s.size ∧ r.data.toList = s.data.toList.drop j ∧ (j = 0 ∨ (s.size - j) % 19 = 0) ∧ ∃ M, Blk wr w0.heap.size M ∧ M.length = n ∧ Digs 18446744073709551616 M ∧ val 18446744073709551616 M = dval (s.data.toList.take j) ∧ Below w0.heap.size w0 wr) (fun sv _ => strSize sv)
    case atStart => exact ⟨s, rfl, 0, Nat.zero_le _, rfl, .inl rfl, _, hb1, HN.out.1, HN.out.2.1, by rw [HN.out.2.2]; rfl, hbel⟩
    case round =>
      obtain ⟨r, rfl, j, hj, hr, hm, M, hbM, hMl, hMd, hMv, hb⟩ := hrel
      have hrs : r.size = s.size - j := by
        have e : r.size = r.data.toList.length := by simp
        rw [e, hr]; simp
      have HR : Hid (r.data.toList = s.data.toList.drop j ∧ r.size = s.size - j) := ⟨hr, hrs⟩
      have HM : Hid (M.length = n ∧ Digs 18446744073709551616 M ∧ val 18446744073709551616 M = dval (s.data.toList.take j)) := ⟨hMl, hMd, hMv⟩
      obtain ⟨L, hL⟩ : ∃ L, r.size = L := ⟨_, rfl⟩
      have hLs : L + j = s.size := by omega
      clear hr hMl hMd hMv hrs hb1 hbel
      by_cases h0 : L = 0
      · have hr0 : r.size = 0 := by omega
        have hr0' : (r.size : Int) = 0 := by omega
        have hnM := hbM.nums HM.out.2.1 HM.out.1 (by omega)
        have HV : Hid (val 18446744073709551616 M = dval s.data.toList) := by
          have e := HM.out.2.2
          rw [List.take_of_length_le (by simp; omega)] at e
          exact e
        clear hL hr0
        go_wp2_with fail
        refine (fitted_any _ _ _ _ _ hnM).mono ?_
        rintro e w2 ⟨a', k, cap', ls, err, rfl, hn2, hres, -, -, hw2⟩
        subst hw2
        rw [HV.out] at hres
        have HZ : Hid (ResParse s ls err) := HP.out ls err hres
        clear hres hnM HV
        go_wp2_with fail
        go_ret2
        exact ⟨_, _, _, _, _, rfl, hn2, HZ.out, hb⟩
      · obtain ⟨sz, hszd⟩ : ∃ sz : Nat, sz = (L - 1) % 19 + 1 := ⟨_, rfl⟩
        have hszi : ((r.size : Int) - 1) % 19 + 1 = (sz : Int) := by rw [hL]; omega
        have hszb : sz ≤ 19 ∧ 1 ≤ sz ∧ sz ≤ r.size := by omega
        have hrp : (0 : Int) < (r.size : Int) := by omega
        have hszl : (sz : Int) ≤ (r.size : Int) := by omega
        have hrb : (r.size : Int) ≤ 1240 := by omega
        have hrm : r.size ≤ maxLen := by unfold maxLen; omega
        have hGs : (r.extract 0 sz).size = sz := by rw [ext_size r 0 sz (by omega)]; omega
        have hGl : (r.extract 0 sz).data.toList = (s.data.toList.drop j).take sz := by rw [ext_list, HR.out.1, Nat.sub_zero, List.drop_zero]
        have hGd : Decs (r.extract 0 sz).data.toList := fun c hc => by
          rw [hGl] at hc
          exact HD.out c (List.mem_of_mem_drop (List.mem_of_mem_take hc))
        obtain ⟨c, hcd⟩ : ∃ c, c = dval (r.extract 0 sz).data.toList := ⟨_, rfl⟩
        have hsl : s.data.toList.length = s.size := by simp
        have hstep := parse_step (l := s.data.toList) (j := j) (sz := sz) (n := n) (c := c) HD.out (by omega) (by omega) (by omega) (by rw [hcd, hGl])
        have hcb := dval_bd hGd
        have hpm := pow_mono (B := 10) (by decide) (show (r.extract 0 sz).data.toList.length ≤ 19 by rw [hGl, List.length_take]; omega)
        have h1019 : (10 : Int) ^ 19 = 10000000000000000000 := by decide
        have hcw : 0 ≤ c ∧ c < 18446744073709551616 := by omega
        have HG : Hid (∀ wx, Calls Try.prog 46 #[.string (r.extract 0 sz)] wx fun e w' => e = .returned (.int .u64 c) ∧ w' = wx) := fun wx => by rw [hcd]; exact groupValue_any _ wx (by omega) hGd
        have HT2 : Hid (∀ wx, Blk wx w0.heap.size M → Below w0.heap.size w0 wx → Calls Try.prog 45 #[.slice (some ⟨w0.heap.size, 0, none⟩) n n, .int .u64 10000000000000000000, .int .u64 c] wx fun e w' => ∃ M', e = .returned (.tuple #[]) ∧ Blk w' w0.heap.size M' ∧ M'.length = n ∧ Digs 18446744073709551616 M' ∧ val 18446744073709551616 M' = dval (s.data.toList.take (j + sz)) ∧ Below w0.heap.size w0 w') := by
          intro wx hbx hbw
          refine (timesPlus_any w0.heap.size n n M 10000000000000000000 c wx (by omega) hcw hbx HM.out.2.1 HM.out.1.symm (by omega)).mono ?_
          rintro e w' ⟨M', cy, rfl, hbM', hMd', hMl', hcy, hv, hg⟩
          refine ⟨M', rfl, hbM', hMl', hMd', ?_, hbw.trans (below_of_grown hg (Nat.le_refl _) hbw.size)⟩
          rw [HM.out.2.2, hstep.1] at hv
          exact no_carry hv hstep.2 (pow_pos' (by decide) _) (val_nonneg (by decide) hMd') hcy
        have HNX : Hid ((r.extract sz r.size).data.toList = s.data.toList.drop (j + sz) ∧ (r.extract sz r.size).size = r.size - sz ∧ j + sz ≤ s.size ∧ (s.size - (j + sz)) % 19 = 0) := by
          refine (show (r.extract sz r.size).data.toList = s.data.toList.drop (j + sz) ∧ (r.extract sz r.size).size = r.size - sz ∧ j + sz ≤ s.size ∧ (s.size - (j + sz)) % 19 = 0 from ⟨?_, ext_size r sz r.size (Nat.le_refl _), by omega, by omega⟩)
          rw [ext_list, HR.out.1, List.drop_drop, List.take_of_length_le (by rw [List.length_drop, hsl]; omega)]
        clear hL hszd hGs hGl hGd hcd hsl hstep hcb hpm h1019 hm
        go_wp2_with fail
        refine (HG.out _).mono ?_
        rintro e w2 ⟨rfl, hw2⟩
        subst hw2
        go_wp2_with fail
        refine (HT2.out _ hbM hb).mono ?_
        rintro e w3 ⟨M', rfl, hbM', hMl', hMd', hMv', hb3⟩
        have HM2 : Hid (M'.length = n ∧ Digs 18446744073709551616 M' ∧ val 18446744073709551616 M' = dval (s.data.toList.take (j + sz))) := ⟨hMl', hMd', hMv'⟩
        clear hMl' hMd' hMv' HT2 HG hbM hb
        go_wp2
        go_roundw
        case rel => exact ⟨_, rfl, j + sz, HNX.out.2.2.1, HNX.out.1, .inr HNX.out.2.2.2, M', hbM', HM2.out.1, HM2.out.2.1, HM2.out.2.2, hb3⟩
        case measure =>
          have := HNX.out.2.1
          simp [strSize]
          omega
end Go.Proofs.Ytnioobiodiofiab
