/-
  The contract of package rational's Right.
-/
import Derived.Test.YtchmlfjjgehbkaaX8P
import Derived.Test.YtchmlfjjgehbkaaR8C
import Derived.Deep.RegionWith
import Derived.Deep.RegionHeld3
import Derived.BigRegion
namespace Go.Proofs.Ytchmlfjjgehbkaa
open Go.RowKit

set_option maxRecDepth 20000 in
set_option maxHeartbeats 6400000 in
theorem rgt_ok8 : RgtOk8 := by
  intro n a b la ca lb cb xs ys w h h'
  obtain ⟨t, ht⟩ : ∃ t, t = rightF n xs ys := ⟨_, rfl⟩
  rw [← ht]
  have HT : Hid (t = rightF n xs ys) := ht
  clear ht
  obtain ⟨V, hVe⟩ : ∃ V, V = w.alloc (.cells #[.bool n, .slice a la ca, .slice b lb cb] 30) := ⟨_, rfl⟩
  have hV := balloc w (.cells #[.bool n, .slice a la ca, .slice b lb cb] 30)
  have hA := Cell3.new w n a b la ca lb cb
  rw [← hVe] at hV hA
  have hGV := hA.lt
  obtain ⟨c0, c1, c2, -, -, -⟩ := hA
  replace h := h.below hV
  replace h' := h'.below hV
  have hm1 := h.hmax
  have hc1 := h.hcap
  have hm2 := h'.hmax
  have hc2 := h'.hcap
  unfold maxLen at hm1 hm2
  have HL : Hid (xs.length = la ∧ ys.length = lb) := ⟨h.hlen, h'.hlen⟩
  have HVe : Hid (V = w.alloc (.cells #[.bool n, .slice a la ca, .slice b lb cb] 30)) := hVe
  clear hVe
  go_enter Try.func41, Try.ntmps41
  go_wp2_with fail
  rw [← HVe.out]
  obtain ⟨G, hG⟩ : ∃ G, G = w.heap.size := ⟨_, rfl⟩
  rw [← hG] at c0 c1 c2 hGV
  rw [← hG]
  have HG : Hid (G = w.heap.size) := hG
  clear hG HVe
  obtain ⟨Q, hQ⟩ : ∃ Q, Q = (rightI n xs && rightI false ys) := ⟨_, rfl⟩
  have HQ : Hid (Q = (rightI n xs && rightI false ys)) := hQ
  clear hQ
  obtain ⟨F, hF⟩ : ∃ F, F = fitsB la lb := ⟨_, rfl⟩
  have HF : Hid (F = fitsB la lb) := hF
  clear hF
  obtain ⟨Z, hZ⟩ : ∃ Z, Z = (!Q || decide (lb = 0) || !F) := ⟨_, rfl⟩
  have HZ : Hid (Z = (!Q || decide (lb = 0) || !F)) := hZ
  clear hZ
  have HRB : Hid (Below V.heap.size V V) := Below.refl _ _
  have HWo : Hid (∀ wx : World, Below V.heap.size V wx → Calls Try.prog 52 #[.slice b lb cb] wx fun e w' => e = .returned (.agg #[.bool false, .slice b lb cb]) ∧ Hid (Below V.heap.size V w') ∧ (w'.cell? ⟨G, 0, none⟩ = some (.bool n) ∧ w'.cell? ⟨G, 1, none⟩ = some (.slice a la ca) ∧ w'.cell? ⟨G, 2, none⟩ = some (.slice b lb cb)) ∧ G < w'.heap.size) := by
    intro wx hbx
    refine (wholeOf_any b lb cb wx).mono ?_
    rintro e w' ⟨rfl, hb⟩
    have hb' := bthen hbx hb
    exact ⟨rfl, hb', ⟨bkeep hb' c0 rfl, bkeep hb' c1 rfl, bkeep hb' c2 rfl⟩, Nat.lt_of_lt_of_le hGV hb'.size⟩
  have HMa : Hid (∀ (wx : World) (g : Nat), Below V.heap.size V wx → wx.cell? ⟨g, 0, none⟩ = some (.bool n) → wx.cell? ⟨g, 1, none⟩ = some (.slice a la ca) → wx.cell? ⟨g, 2, none⟩ = some (.bool false) → wx.cell? ⟨g, 3, none⟩ = some (.slice b lb cb) → Calls Try.prog 51 #[.func (.func 47) #[] #[], .slice (some ⟨g, 0, none⟩) 2 2] wx fun e w' => e = .returned (.bool Q) ∧ Hid (Below V.heap.size V w') ∧ (w'.cell? ⟨G, 0, none⟩ = some (.bool n) ∧ w'.cell? ⟨G, 1, none⟩ = some (.slice a la ca) ∧ w'.cell? ⟨G, 2, none⟩ = some (.slice b lb cb)) ∧ G < w'.heap.size) := by
    intro wx g hbx g0 g1 g2 g3
    refine (may2_any n false a b la ca lb cb g xs ys wx (h.below hbx) (h'.below hbx) g0 g1 g2 g3).mono ?_
    rintro e w' ⟨rfl, hb⟩
    have hb' := bthen hbx hb
    exact ⟨ret_bool HQ.out.symm, hb', ⟨bkeep hb' c0 rfl, bkeep hb' c1 rfl, bkeep hb' c2 rfl⟩, Nat.lt_of_lt_of_le hGV hb'.size⟩
  have HFi : Hid (∀ wx : World, Calls Try.prog 59 #[.slice a la ca, .slice b lb cb] wx fun e w' => e = .returned (.bool F) ∧ wx = w') := by
    intro wx
    refine (fits_any a b la ca lb cb wx (by omega) (by omega)).mono ?_
    rintro e w' ⟨rfl, rfl⟩
    exact ⟨ret_bool HF.out.symm, rfl⟩
  go_cut [25] (fun qv wx => qv = .bool Z ∧ Below V.heap.size V wx)
  case first =>
    clear h h' hV HQ HG HT HL HF
    have ne0 := World.new_ne V ⟨G, 0, none⟩ c0
    cases Q with
    | false =>
      obtain rfl : Z = true := HZ.out
      first
      | go_region_with (first
        | (go_at_call 52; with_reducible refine Calls.mono (HWo.out _ ?_) ?_; (focus (repeat (first | exact HRB.out | refine bdrawD ?_ | refine bgrowD ?_ _))); rintro e w3 ⟨rfl, hA, ⟨n0, n1, n2⟩, n7⟩; have ne3 := World.new_ne w3 ⟨G, 0, none⟩ n0)
        | (go_at_call 51; with_reducible refine Calls.mono (HMa.out _ _ ?_ ?_ ?_ ?_ ?_) ?_; (focus (repeat (first | exact hA.out | refine bdrawD ?_ | refine bgrowD ?_ _))); (go_simp); (go_simp); (go_simp); (go_simp); rintro e w4 ⟨rfl, hM, ⟨o0, o1, o2⟩, o7⟩)
        | (go_at_call 59; refine (HFi.out _).mono ?_; rintro e w5 ⟨rfl, rfl⟩))
      | fail
      all_goals
        clear HWo HMa HRB HFi
        go_wp2_with fail
        go_meet
        case rel => exact ⟨rfl, hM.out⟩
    | true =>
      by_cases h0 : lb = 0
      · subst h0
        obtain rfl : Z = true := HZ.out
        first
        | go_region_with (first
        | (go_at_call 52; with_reducible refine Calls.mono (HWo.out _ ?_) ?_; (focus (repeat (first | exact HRB.out | refine bdrawD ?_ | refine bgrowD ?_ _))); rintro e w3 ⟨rfl, hA, ⟨n0, n1, n2⟩, n7⟩; have ne3 := World.new_ne w3 ⟨G, 0, none⟩ n0)
        | (go_at_call 51; with_reducible refine Calls.mono (HMa.out _ _ ?_ ?_ ?_ ?_ ?_) ?_; (focus (repeat (first | exact hA.out | refine bdrawD ?_ | refine bgrowD ?_ _))); (go_simp); (go_simp); (go_simp); (go_simp); rintro e w4 ⟨rfl, hM, ⟨o0, o1, o2⟩, o7⟩)
        | (go_at_call 59; refine (HFi.out _).mono ?_; rintro e w5 ⟨rfl, rfl⟩))
        | fail
        all_goals
          clear HWo HMa HRB HFi
          go_wp2_with fail
          go_meet
          case rel => exact ⟨rfl, hM.out⟩
      · have h0i : ((lb : Int) == 0) = false := by simp; omega
        obtain rfl : Z = !F := by rw [HZ.out, decide_eq_false h0]; rfl
        first
        | go_region_with (first
        | (go_at_call 52; with_reducible refine Calls.mono (HWo.out _ ?_) ?_; (focus (repeat (first | exact HRB.out | refine bdrawD ?_ | refine bgrowD ?_ _))); rintro e w3 ⟨rfl, hA, ⟨n0, n1, n2⟩, n7⟩; have ne3 := World.new_ne w3 ⟨G, 0, none⟩ n0)
        | (go_at_call 51; with_reducible refine Calls.mono (HMa.out _ _ ?_ ?_ ?_ ?_ ?_) ?_; (focus (repeat (first | exact hA.out | refine bdrawD ?_ | refine bgrowD ?_ _))); (go_simp); (go_simp); (go_simp); (go_simp); rintro e w4 ⟨rfl, hM, ⟨o0, o1, o2⟩, o7⟩)
        | (go_at_call 59; refine (HFi.out _).mono ?_; rintro e w5 ⟨rfl, rfl⟩))
        | fail
        all_goals
          clear HWo HMa HRB HFi
          go_wp2_with fail
          go_meet
          case rel => exact ⟨rfl, hM.out⟩
  case rest =>
    obtain ⟨rfl, hbc⟩ := hcut
    have hB1 := bthen hV hbc
    replace h := h.below hbc
    replace h' := h'.below hbc
    replace c1 := bkeep hbc c1 rfl
    replace c2 := bkeep hbc c2 rfl
    have HF0 : Hid (rightI false ys = rightB ys) := by show _ = _; simp [rightI]
    clear HWo HMa HRB HFi hV hbc hGV HG c0
    cases hz : Z with
    | true =>
      have HE : Hid (t = false) := by
        show _ = _
        rw [HT.out]
        cases hF : rightF n xs ys with
        | false => rfl
        | true =>
          obtain ⟨k1, k2, k3, k4, k5, k6⟩ := (rightF_iff n xs ys).1 hF
          have hh := HZ.out
          obtain ⟨l1, l2⟩ := HL.out
          rw [hz, HQ.out, HF0.out, HF.out, k1, k2, decide_eq_false (by omega)] at hh
          unfold fitsB at hh
          rw [decide_eq_true (by omega), decide_eq_true (by omega)] at hh
          cases hh
      clear h h' HT
      go_wp2
      go_ret
      exact ⟨ret_bool HE.out.symm, hB1⟩
    | false =>
      have hq : Q = true ∧ lb ≠ 0 ∧ F = true := by
        have hh := HZ.out
        rw [hz] at hh
        cases Q <;> cases F <;> simp at hh ⊢
        exact hh
      have hq2 := HQ.out
      rw [hq.1, HF0.out] at hq2
      have hq3 := hq2.symm
      rw [Bool.and_eq_true] at hq3
      have hW := IsW.self h.digs hq3.1
      have hmag := hW.mag
      have hy := IsN.self h'.digs hq3.2
      have hnx := hmag.nv
      have HE : Hid (∀ g : Nat, g = Nat.gcd (iv n xs).natAbs (nv ys) → decide (g = 1) = t) := by
        intro g hg
        rw [HT.out]
        have hf := HF.out
        rw [hq.2.2] at hf
        unfold fitsB at hf
        have hf2 := hf.symm
        rw [Bool.and_eq_true] at hf2
        obtain ⟨l1, l2⟩ := HL.out
        have f1 := of_decide_eq_true hf2.1
        have f2 := of_decide_eq_true hf2.2
        have h0 := hq.2.1
        unfold rightF
        rw [hq3.1, hq3.2, decide_eq_true (show 0 < ys.length by omega), decide_eq_true (show ys.length ≤ 16 by omega), decide_eq_true (show xs.length ≤ 16 by omega), hnx, hg]
        rfl
      clear hq hq2 hq3 hz hnx HF HQ HT HF0 HL hW
      go_wp2_with fail
      refine (common_any _ _ _ _ _ _ _ _ _ _ _ h h' hmag hy).mono ?_
      rintro e w3 ⟨ga, gl, gc, gs, rfl, hG, hg, hb3⟩
      have hB3 := bthen hB1 hb3
      clear hb3 hB1 h h' c1 c2
      go_wp2_with fail
      refine (of_any 1 _ (by omega)).mono ?_
      rintro e w4 ⟨oa, ol, oc, rfl, hO, hb4⟩
      have hB4 := bthen hB3 hb4
      have HC := (show Hid _ from cmp_any _ _ _ _ _ _ _ _ _ (hG.below hb4) hO)
      rw [cmpN_nat hg one_isN] at HC
      have HE2 : Hid ((cmpZ ((Nat.gcd (iv n xs).natAbs (nv ys) : Nat) : Int) ((1 : Nat) : Int) == 0) = t) := by
        show _ = _
        rw [← HE.out _ rfl]
        have hc := cmpZ_eq0 (x := ((Nat.gcd (iv n xs).natAbs (nv ys) : Nat) : Int)) (y := ((1 : Nat) : Int))
        rw [show (cmpZ ((Nat.gcd (iv n xs).natAbs (nv ys) : Nat) : Int) ((1 : Nat) : Int) == 0) = decide (cmpZ ((Nat.gcd (iv n xs).natAbs (nv ys) : Nat) : Int) ((1 : Nat) : Int) = 0) from rfl, decide_eq_decide, hc]
        omega
      obtain ⟨q, hq⟩ : ∃ q, q = cmpZ ((Nat.gcd (iv n xs).natAbs (nv ys) : Nat) : Int) ((1 : Nat) : Int) := ⟨_, rfl⟩
      rw [← hq] at HC HE2
      clear hq HE hG hO hg hmag hy hB3 hb4
      go_wp2_with fail
      refine Calls.mono HC.out ?_
      rintro e w5 ⟨rfl, hb5⟩
      have hB5 := bthen hB4 hb5
      clear HC hb5 hB4
      go_wp2
      go_ret
      exact ⟨ret_bool HE2.out, hB5⟩
end Go.Proofs.Ytchmlfjjgehbkaa
