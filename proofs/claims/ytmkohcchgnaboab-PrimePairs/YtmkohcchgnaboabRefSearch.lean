/-
  The contract of the document's Search.
-/
import Derived.Test.YtmkohcchgnaboabRefPrime
import Derived.Test.YtmkohcchgnaboabTapeC
namespace Go.Proofs.Ytmkohcchgnaboab
open Go.RowKit

/-- What is told of a search for a prime. -/
def ResSearch (B t : Int) (L : List Int) (p : Nat) (err : Int) (R : List Int) : Prop :=
  if B < 8 ∨ 40 < B ∨ t < 1 ∨ 10000 < t then p = 0 ∧ err = 1 ∧ R = L else Srch ((B + 7) / 8).toNat (2 ^ (B.toNat - 1)) t.toNat L p err R

theorem ResSearch.unique {B t : Int} {L : List Int} {p q : Nat} {e f : Int} {R S : List Int} (h : ResSearch B t L p e R) (h' : ResSearch B t L q f S) : p = q ∧ e = f ∧ R = S := by
  unfold ResSearch at h h'
  split at h
  · rename_i hc
    rw [if_pos hc] at h'
    obtain ⟨rfl, rfl, rfl⟩ := h
    obtain ⟨rfl, rfl, rfl⟩ := h'
    exact ⟨rfl, rfl, rfl⟩
  · rename_i hc
    rw [if_neg hc] at h'
    exact h.unique h'

/-- What a search makes of a tape. -/
def SearchT (At : World → Nat → List Int → Prop) (w : World) (g : Nat) (B t : Int) (L : List Int) (e : Ending) (w' : World) : Prop :=
  ∃ (p : Nat) (err : Int) (R : List Int), e = .returned (.tuple #[.int .u64 (p : Int), .int .i64 err]) ∧ ResSearch B t L p err R ∧ At w' g R ∧ w.grownBy w' (some g)

theorem be_snoc {bs : List Int} {k : Nat} (h : k < bs.length) : val 256 (bs.take (k + 1)).reverse = val 256 (bs.take k).reverse * 256 + bs.getD k 0 := by
  rw [List.take_succ_eq_append_getElem h, List.reverse_append]
  simp [val, List.getD, h]
  omega
theorem be_bd {bs : List Int} (hd : Digs 256 bs) (k : Nat) (hk : k ≤ 5) : 0 ≤ val 256 (bs.take k).reverse ∧ val 256 (bs.take k).reverse < 1099511627776 := by
  have hr : Digs 256 (bs.take k).reverse := fun x hx => hd x (List.mem_of_mem_take (List.mem_reverse.1 hx))
  have h1 := val_lt_pow (B := 256) (by decide) hr (k := 5) (by simp; omega)
  exact ⟨val_nonneg (by decide) hr, by have e : (256 : Int) ^ 5 = 1099511627776 := by decide
                                       omega⟩

theorem srch_tail {k T t i : Nat} {L Lc : List Int} (hi : i < t) (hC : ∀ p e R, Srch k T (t - i) Lc p e R → Srch k T t L p e R) : ∀ p e R, Srch k T (t - (i + 1) + 1) Lc p e R → Srch k T t L p e R := by
  rw [show t - (i + 1) + 1 = t - i by omega]; exact hC

theorem top_bd {B j : Nat} (h : j + 1 ≤ B) (hB : B ≤ 40) : 0 < 2 ^ j ∧ 2 ^ j ≤ 549755813888 := by
  refine ⟨Nat.pow_pos (by decide), ?_⟩
  have : 2 ^ j ≤ 2 ^ 39 := Nat.pow_le_pow_right (by omega) (by omega)
  omega

set_option maxRecDepth 20000 in
set_option maxHeartbeats 400000 in
theorem rsearch_nil (B t : Int) (w : World) :
    Calls Try.prog 24 #[.pointer none, .int .i64 B, .int .i64 t] w fun e w' => e = .returned (.tuple #[.int .u64 0, .int .i64 1]) ∧ w' = w := by
  go_enter Try.func24, Try.ntmps24
  go_wp2
  go_ret2
  exact ⟨rfl, rfl⟩

set_option maxRecDepth 20000 in
set_option maxHeartbeats 3200000 in
theorem rsearch_any (g : Nat) (L : List Int) (B t : Int) (w : World) (hT : RTapeAt w g L) :
    Calls Try.prog 24 #[.pointer (some ⟨g, 0, none⟩), .int .i64 B, .int .i64 t] w fun e w' => SearchT RTapeAt w g B t L e w' := by
  have bad : (B < 8 ∨ 40 < B ∨ t < 1 ∨ 10000 < t) → SearchT RTapeAt w g B t L (.returned (.tuple #[.int .u64 0, .int .i64 1])) w := fun h =>
    ⟨0, 1, L, rfl, by unfold ResSearch; rw [if_pos h]; exact ⟨rfl, rfl, rfl⟩, hT, World.grownBy.refl _ _⟩
  by_cases c0 : B < 8
  · have HB := (show Hid _ from bad (.inl c0))
    clear bad
    go_enter Try.func24, Try.ntmps24
    go_wp2
    go_ret2
    exact HB.out
  have d0 : decide (B < 8) = false := decide_eq_false c0
  by_cases c1 : 40 < B
  · have HB := (show Hid _ from bad (.inr (.inl c1)))
    clear bad
    go_enter Try.func24, Try.ntmps24
    go_wp2
    go_ret2
    exact HB.out
  have d1 : decide (40 < B) = false := decide_eq_false c1
  by_cases c2 : t < 1
  · have HB := (show Hid _ from bad (.inr (.inr (.inl c2))))
    clear bad
    go_enter Try.func24, Try.ntmps24
    go_wp2
    go_ret2
    exact HB.out
  have d2 : decide (t < 1) = false := decide_eq_false c2
  by_cases c3 : 10000 < t
  · have HB := (show Hid _ from bad (.inr (.inr (.inr c3))))
    clear bad
    go_enter Try.func24, Try.ntmps24
    go_wp2
    go_ret2
    exact HB.out
  have d3 : decide (10000 < t) = false := decide_eq_false c3
  obtain ⟨b, rfl⟩ : ∃ b : Nat, B = (b : Int) := ⟨B.toNat, by omega⟩
  obtain ⟨n, rfl⟩ : ∃ n : Nat, t = (n : Int) := ⟨t.toNat, by omega⟩
  obtain ⟨k, hk1, hk2⟩ : ∃ k : Nat, ((b : Int) + 7) / 8 = (k : Int) ∧ 1 ≤ k ∧ k ≤ 5 := ⟨(b + 7) / 8, by omega, by omega⟩
  obtain ⟨T, hTe⟩ : ∃ T, T = 2 ^ (b - 1) := ⟨_, rfl⟩
  have hTb := top_bd (B := b) (j := b - 1) (by omega) (by omega)
  have hT2 : T % 2 = 0 := by
    rw [hTe, show b - 1 = (b - 2) + 1 by omega, Nat.pow_succ]; omega
  rw [← hTe] at hTb
  have HRS : Hid (∀ p e R, Srch k T n L p e R → ResSearch b n L p e R) := fun p e R h => by
    unfold ResSearch
    rw [if_neg (by omega)]
    have e1 : (((b : Int) + 7) / 8).toNat = k := by omega
    have e2 : (b : Int).toNat = b := by omega
    have e3 : (n : Int).toNat = n := by omega
    rw [e1, e2, e3, ← hTe]
    exact h
  have HK : Hid (((b : Int) + 7) / 8 = (k : Int)) := hk1
  have HTe : Hid (T = 2 ^ (b - 1)) := hTe
  have hb8 : 8 ≤ b ∧ b ≤ 40 := by omega
  have hn1 : 1 ≤ n ∧ n ≤ 10000 := by omega
  clear bad c0 c1 c2 c3 hk1 hTe
  go_enter Try.func24, Try.ntmps24
  go_wp2
  go_loopw [8] (fun iv wr => ∃ i : Nat, i ≤ n ∧ iv = .int .i64 i ∧ ∃ Lc, RTapeAt wr g Lc ∧ Hid (∀ p e R, Srch k T (n - i) Lc p e R → Srch k T n L p e R) ∧ w.grownBy wr (some g)) (fun iv _ => n - (intOf iv).toNat)
  case atStart => exact ⟨0, Nat.zero_le _, rfl, L, hT, fun p e R h => h, World.grownBy.refl _ _⟩
  case round =>
    clear hT
    obtain ⟨i, hi, rfl, Lc, hTc, HC, hgr⟩ := hrel
    by_cases hlt : i < n
    · have hlti : (i : Int) < (n : Int) := by omega
      have HC1 := (show Hid _ from srch_tail hlt HC.out)
      have hTk : Hid (∀ wx : World, RTapeAt wx g Lc → Calls Try.prog 37 #[.pointer (some ⟨g, 0, none⟩), .int .i64 (((b : Int) + 7) / 8)] wx fun e w' => TakeT RTapeAt wx g Lc k e w') := fun wx hx => by
        rw [HK.out]; exact rtake_any g Lc k wx hx
      clear HC
      go_wp2_with fail
      refine (hTk.out _ hTc).mono ?_
      rintro e w4 ⟨ta, tl, tc, tb, te, R, rfl, hby, -, hrt, hT4, hg4⟩
      have hgr4 := grown_trans hgr hg4
      clear hTk hTc hgr hg4
      by_cases hlen : Lc.length < k
      · obtain ⟨e1, e2, e3⟩ := hrt.over hlen (by omega)
        subst e1
        subst e2
        rw [e3] at hT4
        have HR : Hid (ResSearch b n L 0 7 Lc) := HRS.out _ _ _ (HC1.out _ _ _ (.inl ⟨hlen, rfl, rfl, rfl⟩))
        clear hrt hby e3
        go_wp2
        go_ret2
        exact ⟨0, 7, Lc, rfl, HR.out, hT4, hgr4⟩
      · obtain ⟨rfl, rfl, rfl⟩ := hrt.ok (by omega) (by omega)
        have htl := hby.hlen
        have hll : (Lc.take k).length = k := by simp; omega
        have hkl : tl = k := by omega
        subst hkl
        have hdg := hby.digs
        obtain ⟨ab, aof, rfl, hcells⟩ := hby.cells (by omega)
        have hcc := hby.hcap
        have hcm := hby.hmax
        unfold maxLen at hcm
        obtain ⟨bs, hbs⟩ : ∃ bs, bs = Lc.take tl := ⟨_, rfl⟩
        rw [← hbs] at hcells hdg hll
        have HBS : Hid (bs = Lc.take tl) := hbs
        clear hrt htl hby hbs
        obtain ⟨wo, hwo⟩ : ∃ wo, wo = w4 := ⟨_, rfl⟩
        subst hwo
        have HCe : Hid (∀ i, i < tl → wo.cell? ⟨ab, aof + i, none⟩ = some (.int .u8 (bs.getD i 0))) := hcells
        clear hcells
        go_wp2
        go_loopw [11, 12] (fun xv jv wq => ∃ (j : Nat) (x : Int), j ≤ tl ∧ jv = .int .i64 j ∧ xv = .int .u64 x ∧ 0 ≤ x ∧ x < 1099511627776 ∧ Hid (x = val 256 (bs.take j).reverse) ∧ wq = wo) (fun _ jv _ => tl - (intOf jv).toNat)
        case atStart => exact ⟨0, 0, Nat.zero_le _, rfl, rfl, by omega, by omega, by show _ = _; simp [val], rfl⟩
        case round =>
          obtain ⟨j, x, hj, rfl, rfl, hx0, hx1, HX, rfl⟩ := hrel
          by_cases hjl : j < tl
          · have hji : (j : Int) < (tl : Int) := by omega
            have hc := HCe.out j hjl
            obtain ⟨y, hy⟩ : ∃ y, y = bs.getD j 0 := ⟨_, rfl⟩
            have by' : 0 ≤ y ∧ y < 256 := by rw [hy]; exact hdg.getD (by decide) _
            rw [← hy] at hc
            have HX2 : Hid (x * 256 + y = val 256 (bs.take (j + 1)).reverse) := by show _ = _; rw [be_snoc (by omega), ← HX.out, hy]
            have hbd := be_bd hdg (j + 1) (by omega)
            rw [← HX2.out] at hbd
            clear HX hy
            go_wp2
            go_roundw
            case rel => exact ⟨j + 1, x * 256 + y, by omega, by go_num, by go_num, hbd.1, hbd.2, HX2, by first | rfl | trivial⟩
            case measure => simp [intOf]; omega
          · obtain rfl : j = tl := by omega
            have hjd : decide ((j : Int) < (j : Int)) = false := decide_eq_false (by omega)
            have HX3 : Hid (x = val 256 bs.reverse) := by show _ = _; rw [HX.out, List.take_of_length_le (by omega)]
            clear HX hjl
            obtain ⟨wu, hwu⟩ : ∃ wu, wu = wr := ⟨_, rfl⟩
            subst hwu
            go_wp2
            go_loopw [13, 14] (fun tv mv wq => ∃ m : Nat, 1 ≤ m ∧ m ≤ b ∧ mv = .int .i64 m ∧ tv = .int .u64 ((2 ^ (m - 1) : Nat) : Int) ∧ wq = wu) (fun _ mv _ => b - (intOf mv).toNat)
            case atStart => exact ⟨1, by omega, by omega, rfl, by simp, rfl⟩
            case round =>
              obtain ⟨m, hm1, hm2, rfl, rfl, rfl⟩ := hrel
              by_cases hmb : m < b
              · have hmi : (m : Int) < (b : Int) := by omega
                have htb := top_bd (B := b) (j := m - 1) (by omega) (by omega)
                obtain ⟨tp, htp⟩ : ∃ tp, tp = 2 ^ (m - 1) := ⟨_, rfl⟩
                have HT2 : Hid (tp * 2 = 2 ^ (m + 1 - 1)) := by
                  show _ = _
                  rw [htp, ← Nat.pow_succ, show (m - 1).succ = m + 1 - 1 by omega]
                rw [← htp] at htb ⊢
                clear htp
                go_wp2
                go_roundw
                case rel => exact ⟨m + 1, by omega, by omega, by go_num, by rw [← HT2.out]; go_num, by first | rfl | trivial⟩
                case measure => simp [intOf]; omega
              · obtain rfl : m = b := by omega
                have hmd : decide ((m : Int) < (m : Int)) = false := decide_eq_false (by omega)
                rw [← HTe.out]
                clear HTe hmb
                have hTi : ¬ (T : Int) = 0 := by omega
                have hTp : (0 : Int) < (T : Int) := by omega
                obtain ⟨y, hy⟩ : ∃ y, y = x % (T : Int) := ⟨_, rfl⟩
                have hyb : 0 ≤ y ∧ y < (T : Int) := by rw [hy]; exact ⟨Int.emod_nonneg _ hTi, Int.emod_lt_of_pos _ hTp⟩
                obtain ⟨c, hc⟩ : ∃ c, c = candidate T x.toNat := ⟨_, rfl⟩
                have hcb := candidate_bd (T := T) (x := x.toNat) hT2 hTb.1
                have hcv : (c : Int) = if (y + (T : Int)) % 2 = 0 then y + (T : Int) + 1 else y + (T : Int) := by
                  have hyn : (y.toNat : Int) = y := by omega
                  have hxn : x.toNat % T = y.toNat := by
                    have : ((x.toNat % T : Nat) : Int) = y := by rw [Int.natCast_emod, hy, show (x.toNat : Int) = x by omega]
                    omega
                  rw [hc]; unfold candidate; rw [hxn]
                  split <;> split <;> omega
                rw [← hc] at hcb
                have HCa : Hid (candidate T (val 256 (Lc.take j).reverse).toNat = c) := by
                  show _ = _
                  rw [← HBS.out, ← HX3.out, hc]
                have hLj : j ≤ Lc.length := by omega
                have HHit : Hid (Pr c → ResSearch m n L c 0 (Lc.drop j)) := fun hp =>
                  HRS.out _ _ _ (HC1.out _ _ _ (.inr (.inl ⟨hLj, by rw [HCa.out]; exact hp, HCa.out.symm, rfl, rfl⟩)))
                have HMiss : Hid (¬ Pr c → ∀ p e R, Srch j T (n - (i + 1)) (Lc.drop j) p e R → Srch j T n L p e R) := fun hp p e R h =>
                  HC1.out _ _ _ (.inr (.inr ⟨hLj, by rw [HCa.out]; exact hp, h⟩))
                clear HC1 HRS HX3 HBS HCa hc
                by_cases hpar : (y + (T : Int)) % 2 = 0
                · rw [if_pos hpar] at hcv
                  go_wp2_with fail
                  rw [show x % (T : Int) + (T : Int) + 1 = (c : Int) by rw [hcv, hy]]
                  clear hcv hy hyb hpar
                  refine (rleast_any c _ (by omega)).mono ?_
                  rintro e w9 ⟨d, rfl, hd, hdle, rfl⟩
                  have hpr := hd.isPr (by omega)
                  by_cases hdc : d = c
                  · subst hdc
                    have HR := (show Hid _ from HHit.out (hpr.1 rfl))
                    clear hpr hd HHit HMiss
                    go_wp2
                    go_ret2
                    exact ⟨d, 0, Lc.drop j, rfl, HR.out, hT4, hgr4⟩
                  · have HM := (show Hid _ from HMiss.out (fun h => hdc (hpr.2 h)))
                    have hne : ((d : Int) == (c : Int)) = false := by simp; omega
                    clear hpr hd HHit HMiss hdc
                    go_wp2
                    go_roundw
                    case rel => exact ⟨i + 1, by omega, by go_num, Lc.drop j, hT4, HM, hgr4⟩
                    case measure => simp [intOf]; omega
                · rw [if_neg hpar] at hcv
                  go_wp2_with fail
                  rw [show x % (T : Int) + (T : Int) = (c : Int) by rw [hcv, hy]]
                  clear hcv hy hyb hpar
                  refine (rleast_any c _ (by omega)).mono ?_
                  rintro e w9 ⟨d, rfl, hd, hdle, rfl⟩
                  have hpr := hd.isPr (by omega)
                  by_cases hdc : d = c
                  · subst hdc
                    have HR := (show Hid _ from HHit.out (hpr.1 rfl))
                    clear hpr hd HHit HMiss
                    go_wp2
                    go_ret2
                    exact ⟨d, 0, Lc.drop j, rfl, HR.out, hT4, hgr4⟩
                  · have HM := (show Hid _ from HMiss.out (fun h => hdc (hpr.2 h)))
                    have hne : ((d : Int) == (c : Int)) = false := by simp; omega
                    clear hpr hd HHit HMiss hdc
                    go_wp2
                    go_roundw
                    case rel => exact ⟨i + 1, by omega, by go_num, Lc.drop j, hT4, HM, hgr4⟩
                    case measure => simp [intOf]; omega
    · obtain rfl : i = n := by omega
      have hid : decide ((i : Int) < (i : Int)) = false := decide_eq_false (by omega)
      have HR : Hid (ResSearch b i L 0 8 Lc) := HRS.out _ _ _ (HC.out _ _ _ (by rw [Nat.sub_self]; exact ⟨rfl, rfl, rfl⟩))
      clear HC
      go_wp2
      go_ret2
      exact ⟨0, 8, Lc, rfl, HR.out, hTc, hgr⟩
end Go.Proofs.Ytmkohcchgnaboab
