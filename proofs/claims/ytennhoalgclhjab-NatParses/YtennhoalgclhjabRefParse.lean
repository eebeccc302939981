/-
  The contract of the document's own Parse.
-/
import Derived.Test.YtennhoalgclhjabParse
import Derived.Test.YtennhoalgclhjabRefMulA
namespace Go.Proofs.Ytennhoalgclhjab
open Go.RowKit

theorem Nums.alloc {w : World} {a : Option Addr} {len cap : Nat} {zs : List Int} (h : Nums w a len cap zs) (o : Obj) : Nums (w.alloc o) a len cap zs := h.below ((Below.refl w.heap.size w).alloc (Nat.le_refl _) o)

theorem Nums.drew {w : World} {a : Option Addr} {len cap : Nat} {zs : List Int} (h : Nums w a len cap zs) : Nums w.drew a len cap zs := ⟨h.hlen, h.hcap, h.hmax, h.cells, h.word⟩
theorem Nums.lit1' (w : World) (x : Int) (hx : 0 ≤ x ∧ x < 18446744073709551616) (t : TypeId) (g : Nat) (hg : g = w.heap.size) : Nums (w.alloc (.cells #[.int .u64 x] t)) (some ⟨g, 0, none⟩) 1 1 [x] := by subst hg; exact Nums.lit1 w x hx t

theorem wrap8 {y : Int} (h : 0 ≤ y ∧ y ≤ 9) : IntKind.u64.wrap (IntKind.u8.wrap y) = y := by
  simp [IntKind.wrap, IntKind.signed, IntKind.bits]; omega

theorem textB_zero {s : ByteArray} (h1 : s.size ≠ 1) (hp : 0 < s.size) (h0 : (s[0].toNat : Int) = 48) : textB s = false := by
  have e0 : s[0] = 48 := UInt8.toNat_inj.1 (by have h48 : (48 : UInt8).toNat = 48 := rfl; omega)
  have e : (decide (s.size = 1) || s.data.toList.headD 0 != 48) = false := by rw [head8 hp, e0, decide_eq_false h1]; rfl
  simp only [textB, e, Bool.and_false]
theorem textB_yes {s : ByteArray} (h : 1 ≤ s.size ∧ s.size ≤ 1240) (hd : Decs s.data.toList) (h0 : s.size = 1 ∨ ¬ (s[0].toNat : Int) = 48) : textB s = true := by
  rw [textB_all h hd, head8 (by omega)]
  rcases h0 with h0 | h0
  · simp [h0]
  · have : s[0] ≠ 48 := fun e => h0 (by rw [e]; rfl)
    simp [this]

set_option maxHeartbeats 1600000 in
theorem refParse_any (s : ByteArray) (w : World) (hs : s.size ≤ maxLen) :
    Calls Try.prog 28 #[.string s] w fun e w' => ∃ a' n cap' ls err, e = .returned (.tuple #[.slice a' n cap', .int .i64 err]) ∧ Nums w' a' n cap' ls ∧ ResParse s ls err ∧ Below w.heap.size w w' := by
  unfold maxLen at hs
  have hno : textB s = false → ResParse s [] 5 := fun h => by simp [ResParse, h]
  by_cases h0 : (s.size : Int) < 1
  · have HP : Hid (ResParse s [] 5) := hno (textB_len (by omega))
    clear hno
    go_enter Try.func28, Try.ntmps28
    go_wp2
    go_ret2
    exact ⟨none, 0, 0, [], 5, rfl, Nums.nil _, HP.out, Below.refl _ _⟩
  · by_cases h1 : (1240 : Int) < (s.size : Int)
    · have HP : Hid (ResParse s [] 5) := hno (textB_len (by omega))
      clear hno
      go_enter Try.func28, Try.ntmps28
      go_wp2
      go_ret2
      exact ⟨none, 0, 0, [], 5, rfl, Nums.nil _, HP.out, Below.refl _ _⟩
    · have hpos : 0 < s.size := by omega
      have hle : s.size ≤ 1240 := by omega
      by_cases hz : (1 : Int) < (s.size : Int) ∧ (s[0].toNat : Int) = 48
      · obtain ⟨hz1, hz2⟩ := hz
        have HP : Hid (ResParse s [] 5) := hno (textB_zero (by omega) hpos hz2)
        clear hno
        go_enter Try.func28, Try.ntmps28
        go_wp2
        go_ret2
        exact ⟨none, 0, 0, [], 5, rfl, Nums.nil _, HP.out, Below.refl _ _⟩
      · have hz0 : s.size = 1 ∨ ¬ (s[0].toNat : Int) = 48 := by omega
        have HZ : Hid (s.size = 1 ∨ ¬ (s[0].toNat : Int) = 48) := hz0
        have HNO : Hid (textB s = false → ResParse s [] 5) := hno
        have rest : ∀ (hq : (1 : Int) < (s.size : Int) → ¬ (s[0].toNat : Int) = 48), Calls Try.prog 28 #[.string s] w fun e w' => ∃ a' n cap' ls err, e = .returned (.tuple #[.slice a' n cap', .int .i64 err]) ∧ Nums w' a' n cap' ls ∧ ResParse s ls err ∧ Below w.heap.size w w' := by
          intro hq
          clear hno hz hz0
          have hcase : (1 : Int) < (s.size : Int) ∧ ¬ (s[0].toNat : Int) = 48 ∨ ¬ (1 : Int) < (s.size : Int) := by
            by_cases h1s : (1 : Int) < (s.size : Int)
            · exact .inl ⟨h1s, hq h1s⟩
            · exact .inr h1s
          clear hq
          rcases hcase with ⟨h1s, hq2⟩ | h1s
          all_goals
            go_enter Try.func28, Try.ntmps28
            go_wp2
            go_loopw [5] (fun i wr => ∃ k : Nat, k ≤ s.size ∧ i = .int .i64 k ∧ (∀ j (hj : j < s.size), j < k → 48 ≤ (s[j].toNat : Int) ∧ (s[j].toNat : Int) ≤ 57) ∧ wr = w) (fun i _ => s.size - (intOf i).toNat)
            case atStart => exact ⟨0, Nat.zero_le _, rfl, fun j _ hj => by omega, rfl⟩
            case round =>
              obtain ⟨k, hk, rfl, hall, rfl⟩ := hrel
              have HA : Hid (∀ j (hj : j < s.size), j < k → 48 ≤ (s[j].toNat : Int) ∧ (s[j].toNat : Int) ≤ 57) := hall
              clear hall
              by_cases hlt : k < s.size
              · have hki : (k : Int) < (s.size : Int) := by omega
                by_cases hc1 : (s[k].toNat : Int) < 48
                · have HB : Hid (ResParse s [] 5) := HNO.out (textB_bad hlt (by omega))
                  go_wp2
                  go_ret2
                  exact ⟨none, 0, 0, [], 5, rfl, Nums.nil _, HB.out, Below.refl _ _⟩
                · by_cases hc2 : (57 : Int) < (s[k].toNat : Int)
                  · have HB : Hid (ResParse s [] 5) := HNO.out (textB_bad hlt (by omega))
                    go_wp2
                    go_ret2
                    exact ⟨none, 0, 0, [], 5, rfl, Nums.nil _, HB.out, Below.refl _ _⟩
                  · go_wp2
                    go_roundw
                    case rel =>
                      refine ⟨k + 1, by omega, by go_num, fun j hj h => ?_, by first | rfl | trivial⟩
                      by_cases hjk : j < k
                      · exact HA.out j hj hjk
                      · obtain rfl : j = k := by omega
                        omega
                    case measure => simp [intOf]; omega
              · obtain rfl : k = s.size := by omega
                have hd : Decs s.data.toList := fun c hc => by
                  obtain ⟨j, hj, rfl⟩ := List.getElem_of_mem hc
                  exact HA.out j (by simpa using hj) (by simpa using hj)
                have hty := textB_yes ⟨by omega, hle⟩ hd HZ.out
                have HP : Hid (∀ ls err, Res (dval s.data.toList) ls err → ResParse s ls err) := fun ls err h => (show ResParse s ls err by rw [ResParse, hty, if_pos rfl]; exact h)
                have HD : Hid (Decs s.data.toList) := hd
                clear hd hty HNO HA HZ hk hlt
                go_wp2
                go_loopw [4, 6] (fun dv iv wv => ∃ k : Nat, k ≤ s.size ∧ iv = .int .i64 k ∧ ∃ a n c ds, dv = .slice a n c ∧ Nums wv a n c ds ∧ Digs 65536 ds ∧ Top ds ∧ n ≤ 2 * k ∧ val 65536 ds = dval (s.data.toList.take k) ∧ Below wr.heap.size wr wv) (fun _ iv _ => s.size - (intOf iv).toNat)
                case atStart => exact ⟨0, Nat.zero_le _, rfl, none, 0, 0, [], rfl, Nums.nil _, Digs.nil _, .inl rfl, Nat.le_refl _, rfl, Below.refl _ _⟩
                case round =>
                  obtain ⟨k, hk, rfl, a, n, c, ds, rfl, hds, hdd, hdt, hn, hdv, hb⟩ := hrel
                  have HV : Hid (Digs 65536 ds ∧ Top ds ∧ val 65536 ds = dval (s.data.toList.take k)) := ⟨hdd, hdt, hdv⟩
                  clear hdd hdt hdv
                  by_cases hlt : k < s.size
                  · have hki : (k : Int) < (s.size : Int) := by omega
                    have hdg := dec_at HD.out hlt
                    have hsn := dval_snoc (s.data.toList.take k) s[k]
                    rw [← take_snoc8 s k hlt] at hsn
                    obtain ⟨x, hx⟩ : ∃ x, x = (s[k].toNat : Int) - 48 := ⟨_, rfl⟩
                    have hxb : 0 ≤ x ∧ x ≤ 9 := by omega
                    have HX : Hid (dval (s.data.toList.take (k + 1)) = dval (s.data.toList.take k) * 10 + x) := by
                      rw [hx]; exact hsn
                    clear hsn
                    have d10 : Digs 65536 [10] := by intro y hy; simp at hy; omega
                    have dx : Digs 65536 [(s[k].toNat : Int) - 48] := by intro y hy; simp at hy; omega
                    obtain ⟨wq, hwq⟩ : ∃ wq, wr = wq := ⟨_, rfl⟩
                    have HMul : Hid (∀ wx ta, Nums wx a n c ds → Nums wx ta 1 1 [10] → Below wq.heap.size wq wx → Calls Try.prog 42 #[.slice a n c, .slice ta 1 1] wx fun e w' => ∃ a4 n4 c4 es, e = .returned (.slice a4 n4 c4) ∧ Nums w' a4 n4 c4 es ∧ (Digs 65536 es ∧ n4 ≤ n + 1 ∧ val 65536 es = dval (s.data.toList.take k) * 10) ∧ Below wq.heap.size wq w' ∧ Below wx.heap.size wx w') := by
                      intro wx ta h1 h2 h3
                      refine (rmul_any _ _ _ _ _ _ ds [10] wx h1 h2 HV.out.1 d10 (by omega) (by omega)).mono ?_
                      rintro e w' ⟨a4, n4, c4, es, rfl, e1, e2, e3, e4, e5, e6⟩
                      exact ⟨a4, n4, c4, es, rfl, e1, ⟨e2, e4, by rw [e5, HV.out.2.2]; simp [val]⟩, h3.trans (e6.mono h3.size), e6⟩
                    have hXe : IntKind.u64.wrap (IntKind.u8.wrap ((s[k].toNat : Int) - 48)) = (s[k].toNat : Int) - 48 := wrap8 (by omega)
                    have hXb : 0 ≤ IntKind.u64.wrap (IntKind.u8.wrap ((s[k].toNat : Int) - 48)) ∧ IntKind.u64.wrap (IntKind.u8.wrap ((s[k].toNat : Int) - 48)) < 18446744073709551616 := by rw [hXe]; omega
                    have HXe : Hid (IntKind.u64.wrap (IntKind.u8.wrap ((s[k].toNat : Int) - 48)) = (s[k].toNat : Int) - 48) := hXe
                    clear hXe
                    have HCut : Hid (∀ wx ta, Nums wx ta 1 1 [IntKind.u64.wrap (IntKind.u8.wrap ((s[k].toNat : Int) - 48))] → Below wq.heap.size wq wx → Calls Try.prog 46 #[.slice ta 1 1] wx fun e w' => ∃ m xs, e = .returned (.slice ta m 1) ∧ Nums wx ta m 1 xs ∧ (Digs 65536 xs ∧ m ≤ 1 ∧ val 65536 xs = x) ∧ Below wq.heap.size wq wx ∧ w' = wx) := by
                      intro wx ta h1 h3
                      rw [HXe.out] at h1
                      refine (cut_any _ _ _ _ _ h1).mono ?_
                      rintro e w' ⟨m, rfl, htr, rfl⟩
                      have hm1 : m ≤ 1 := by have := htr.le; simpa using this
                      exact ⟨m, _, rfl, h1.take hm1, ⟨dx.take m, hm1, by rw [htr.val, hx]; simp [val]⟩, h3, rfl⟩
                    have hds' : Nums wq a n c ds := by rw [← hwq]; exact hds
                    have hbq : Below wq.heap.size wq wq := Below.refl _ _
                    rw [hwq] at hb ⊢
                    clear hx hds hwq
                    go_wp2_with fail
                    go_region_with (first
                      | (go_at_call 42; go_loud (refine (HMul.out _ _ ?_ ?_ ?_).mono ?_; (focus (repeat (first | exact hds' | refine Nums.drew ?_ | refine Nums.alloc ?_ _))); (focus (repeat (first | exact Nums.lit1' _ _ (by omega) _ _ (by simp) | refine Nums.drew ?_ | refine Nums.alloc ?_ _))); (focus (repeat (first | exact hbq | refine Below.drew ?_ | refine Below.alloc ?_ (by simp) _))); rintro e w4 ⟨a4, n4, c4, es, rfl, he, hep, hb4, hb4'⟩))
                      | (go_at_call 46; go_loud (refine (HCut.out _ _ ?_ ?_).mono ?_; (focus (first | ((repeat (first | exact Nums.lit1' _ _ hXb _ _ (by simp) | refine Nums.drew ?_ | refine Nums.alloc ?_ _)); done) | (refine Nums.below ?_ hb4'; (repeat (first | exact Nums.lit1' _ _ hXb _ _ (by simp) | refine Nums.drew ?_ | refine Nums.alloc ?_ _)); done) | (refine Nums.drew (Nums.below ?_ hb4'); (repeat (first | exact Nums.lit1' _ _ hXb _ _ (by simp) | refine Nums.drew ?_ | refine Nums.alloc ?_ _)); done))); (focus (repeat (first | exact hb4 | refine Below.drew ?_ | refine Below.alloc ?_ (by first | exact hb4.size | (have := hb4.size; simp; omega)) _))); rintro e w5 ⟨m, xs, rfl, hxm, hxp, hb5, hw5⟩; subst hw5))
                      | (go_at_call 53; go_loud (refine (radd_any _ _ _ _ _ _ es xs _ ?_ ?_ hep.1 hxp.1 (by omega) (by omega)).mono ?_; (focus (repeat (first | exact he | refine Nums.drew ?_ | refine Nums.alloc ?_ _))); (focus (repeat (first | exact hxm | refine Nums.drew ?_ | refine Nums.alloc ?_ _))); rintro e w6 ⟨a6, n6, c6, fs, rfl, hn6, hd6, ht6, hl6, hv6, hb6⟩)))
                    all_goals
                      have hv : val 65536 fs = dval (s.data.toList.take (k + 1)) := by rw [hv6, hep.2.2, hxp.2.2, ← HX.out]
                      have hmx : Nat.max n4 m ≤ 2 * k + 1 := Nat.max_le.2 ⟨by omega, by omega⟩
                      have hb7 : Below wq.heap.size wq w6 := hb5.trans (Below.mono ⟨hb6.os, hb6.tape, hb6.output, hb6.size, hb6.block⟩ hb5.size)
                      have hb8 := hb.trans (hb7.mono hb.size)
                      have HZ : Hid (Digs 65536 fs ∧ Top fs ∧ n6 ≤ 2 * (k + 1) ∧ val 65536 fs = dval (s.data.toList.take (k + 1))) := ⟨hd6, ht6, by omega, hv⟩
                      clear hv hmx hb7 hb6 hb5 hb4 hb4' hb he hxm hds' hbq hd6 ht6 hv6 hep hxp
                      go_wp2
                      go_roundw
                      case rel => exact ⟨k + 1, by omega, by go_num, _, _, _, fs, rfl, hn6, HZ.out.1, HZ.out.2.1, HZ.out.2.2.1, HZ.out.2.2.2, hb8⟩
                      case measure => simp [intOf]; omega
                  · obtain rfl : k = s.size := by omega
                    have hv := HV.out.2.2
                    rw [List.take_of_length_le (by simp)] at hv
                    have HV2 : Hid (val 65536 ds = dval s.data.toList) := hv
                    clear hv
                    go_wp2_with fail
                    refine (told_any _ _ _ _ _ hds HV.out.1 HV.out.2.1 (by omega)).mono ?_
                    rintro e w4 ⟨a4, n4, c4, ls, err, rfl, hn4, hres, hb4⟩
                    rw [HV2.out] at hres
                    have HZ2 : Hid (ResParse s ls err) := HP.out ls err hres
                    have hb5 := hb.trans (hb4.mono hb.size)
                    clear hres hb hb4 hds
                    go_wp2_with fail
                    go_ret2
                    exact ⟨_, _, _, _, _, rfl, hn4, HZ2.out, hb5⟩
        exact rest (by omega)
end Go.Proofs.Ytennhoalgclhjab
