/-
  The contract of product: Karatsuba's product by a recursive closure.
-/
import Derived.Test.YtaipkganijofjabParted
import Derived.Test.YtaipkganijofjabTakeFrom
import Derived.Test.YtaipkganijofjabAdd
import Derived.Laws.EntriesVeiled
import Derived.Deep.DeepCutAuto
namespace Go.Proofs.Ytaipkganijofjab
open Go.RowKit

theorem kara (xl xh yl yh H : Int) : (xl + H * xh) * (yl + H * yh) = xl * yl + H * ((xl + xh) * (yl + yh) - xl * yl - xh * yh) + H * (H * (xh * yh)) := by
  have e1 : (xl + xh) * (yl + yh) - xl * yl - xh * yh = xl * yh + xh * yl := by rw [Int.add_mul, Int.mul_add, Int.mul_add]; omega
  rw [e1, Int.add_mul, Int.mul_add, Int.mul_add, Int.mul_add]
  have f1 : xl * (H * yh) = H * (xl * yh) := Int.mul_left_comm ..
  have f2 : H * xh * yl = H * (xh * yl) := Int.mul_assoc ..
  have f3 : H * xh * (H * yh) = H * (H * (xh * yh)) := by rw [Int.mul_assoc, Int.mul_left_comm xh]
  omega

theorem val_split' (B : Int) (zs : List Int) (k : Nat) : val B zs = val B (zs.take k) + B ^ k * val B (zs.drop k) := by
  by_cases h : k ≤ zs.length
  · exact val_split B zs k h
  · rw [List.take_of_length_le (by omega), List.drop_eq_nil_of_le (by omega)]; simp [val]

theorem val_trunc {B : Int} (hB : 0 < B) {D : List Int} (hD : Digs B D) {n : Nat} (h : val B D < B ^ n) : vs B (fun i => D.getD i 0) n = val B D := by
  rw [vs_val]
  have e := val_split' B D n
  have h1 := val_nonneg hB (hD.take n)
  have h2 := val_nonneg hB (hD.drop n)
  have h3 := pow_pos' hB n
  by_cases h0 : val B (D.drop n) = 0
  · rw [h0] at e; omega
  · have h4 : B ^ n * 1 ≤ B ^ n * val B (D.drop n) := Int.mul_le_mul_of_nonneg_left (by omega) (by omega)
    omega

theorem take_end {B : Int} (hB : 0 < B) {L M ys : List Int} {n : Nat} {bw : Int} (hM : Digs B M) (hLl : L.length = n) (hMl : M.length = L.length) (hy : ys.length ≤ n) (hge : val B ys ≤ val B L) (hbw : 0 ≤ bw ∧ bw ≤ 1)
    (hv : vs B (fun i => M.getD (0 + i) 0) n - B ^ n * bw = vs B (fun i => L.getD (0 + i) 0) n - vs B (fun i => ys.getD i 0) n) : val B M = val B L - val B ys := by
  simp only [Nat.zero_add] at hv
  rw [vs_all _ M (by omega), vs_all _ L (by omega), vs_all _ ys hy] at hv
  have b1 := val_lt hB hM
  rw [hMl, hLl] at b1
  have hc : bw = 0 ∨ bw = 1 := by omega
  rcases hc with rfl | rfl <;> omega

theorem add_end {B : Int} (hB : 0 < B) {L M D : List Int} {o n : Nat} {cy : Int} (hM : Digs B M) (hD : Digs B D) (hLl : L.length = o + n) (hMl : M.length = L.length) (hs : ∀ j, j < o ∨ o + n ≤ j → M.getD j 0 = L.getD j 0) (hcy : 0 ≤ cy ∧ cy ≤ 1)
    (hv : vs B (fun i => M.getD (o + i) 0) n + B ^ n * cy = vs B (fun i => L.getD (o + i) 0) n + vs B (fun i => D.getD i 0) n) (hlt : val B L + B ^ o * val B D < B ^ (o + n)) (hL : 0 ≤ val B L) : val B M = val B L + B ^ o * val B D := by
  have p1 := pow_pos' hB o
  have hDn : val B D < B ^ n := by
    rw [Int.pow_add] at hlt
    by_cases h : val B D < B ^ n
    · exact h
    · have : B ^ o * B ^ n ≤ B ^ o * val B D := Int.mul_le_mul_of_nonneg_left (by omega) (by omega)
      omega
  rw [val_trunc hB hD hDn] at hv
  have e := vs_seg (B := B) (N := M) (M := L) (n := o + n) (Nat.le_refl _) hs
  rw [vs_all _ M (by omega), vs_all _ L (by omega)] at e
  have e2 : vs B (fun i => M.getD (o + i) 0) n - vs B (fun i => L.getD (o + i) 0) n = val B D - B ^ n * cy := by omega
  rw [e2, Int.mul_sub, ← Int.mul_assoc, ← Int.pow_add] at e
  have b1 := val_nonneg hB hM
  have hc : cy = 0 ∨ cy = 1 := by omega
  rcases hc with rfl | rfl
  · omega
  · omega

theorem mul_nn {a b : Int} (ha : 0 ≤ a) (hb : 0 ≤ b) : 0 ≤ a * b := Int.mul_nonneg ha hb

/-- The closure: its one captured variable lies in block g. -/
def clos (g : Nat) : Value := .func (.func 94) #[] #[.pointer (some ⟨g, 0, none⟩)]

/-- What the closure tells, where its arguments have fewer than N limbs together. -/
def TimesOk (g0 N : Nat) : Prop := ∀ (a b : Option Addr) (la ca lb cb : Nat) (xs ys : List Int) (w : World), la + lb < N → Nums w a la ca xs → Nums w b lb cb ys → la ≤ 1000 → lb ≤ 1000 → w.cell? ⟨g0, 0, none⟩ = some (clos g0) →
    Calls Try.prog 94 #[.slice a la ca, .slice b lb cb, .pointer (some ⟨g0, 0, none⟩)] w fun e w' => ∃ L g n, e = .returned (.slice (some ⟨g, 0, none⟩) n n) ∧ L.length = n ∧ n = la + lb ∧ w.heap.size ≤ g ∧
      Blk w' g L ∧ Digs 18446744073709551616 L ∧ val 18446744073709551616 L = val 18446744073709551616 xs * val 18446744073709551616 ys ∧ Below w.heap.size w w'

set_option maxHeartbeats 800000 in
theorem times_small (g0 : Nat) (a b : Option Addr) (la ca lb cb : Nat) (xs ys : List Int) (w : World) (h : Nums w a la ca xs) (h' : Nums w b lb cb ys) (hla : la ≤ 1000) (hlb : lb ≤ 1000) (hsm : la < 12 ∨ lb < 12) :
    Calls Try.prog 94 #[.slice a la ca, .slice b lb cb, .pointer (some ⟨g0, 0, none⟩)] w fun e w' => ∃ L g n, e = .returned (.slice (some ⟨g, 0, none⟩) n n) ∧ L.length = n ∧ n = la + lb ∧ w.heap.size ≤ g ∧
      Blk w' g L ∧ Digs 18446744073709551616 L ∧ val 18446744073709551616 L = val 18446744073709551616 xs * val 18446744073709551616 ys ∧ Below w.heap.size w w' := by
  by_cases hlt : lb < la
  · have h12 : (lb : Int) < 12 := by omega
    go_enter Try.func94, Try.ntmps94
    go_wp2_with fail
    refine (longhand_any _ _ _ _ _ _ _ _ _ h h' (by omega) (by omega)).mono ?_
    rintro e w' ⟨L, g, n, rfl, h1, h2, h3, h4, h5, h6, h7⟩
    have HH := (show Hid _ from And.intro h1 (And.intro h2 h6))
    clear h1 h2 h6
    go_wp2_with fail
    go_ret
    exact ⟨L, g, n, rfl, HH.out.1, HH.out.2.1, h3, h4, h5, HH.out.2.2, h7⟩
  · have h12 : (la : Int) < 12 := by omega
    go_enter Try.func94, Try.ntmps94
    go_wp2_with fail
    refine (longhand_any _ _ _ _ _ _ _ _ _ h h' (by omega) (by omega)).mono ?_
    rintro e w' ⟨L, g, n, rfl, h1, h2, h3, h4, h5, h6, h7⟩
    have HH := (show Hid _ from And.intro h1 (And.intro h2 h6))
    clear h1 h2 h6
    go_wp2_with fail
    go_ret
    exact ⟨L, g, n, rfl, HH.out.1, HH.out.2.1, h3, h4, h5, HH.out.2.2, h7⟩

set_option maxHeartbeats 1600000 in
theorem times_big (g0 N : Nat) (IH : TimesOk g0 N) (a b : Option Addr) (la ca lb cb : Nat) (xs ys : List Int) (w : World) (hN : la + lb ≤ N) (h : Nums w a la ca xs) (h' : Nums w b lb cb ys) (hla : la ≤ 1000) (hlb : lb ≤ 1000) (h12 : 12 ≤ la) (h12' : 12 ≤ lb) (hcl : w.cell? ⟨g0, 0, none⟩ = some (clos g0)) :
    Calls Try.prog 94 #[.slice a la ca, .slice b lb cb, .pointer (some ⟨g0, 0, none⟩)] w fun e w' => ∃ L g n, e = .returned (.slice (some ⟨g, 0, none⟩) n n) ∧ L.length = n ∧ n = la + lb ∧ w.heap.size ≤ g ∧
      Blk w' g L ∧ Digs 18446744073709551616 L ∧ val 18446744073709551616 L = val 18446744073709551616 xs * val 18446744073709551616 ys ∧ Below w.heap.size w w' := by
  have HL : Hid (xs.length = la ∧ ys.length = lb) := ⟨h.hlen, h'.hlen⟩
  obtain ⟨half, hh1, hh2, hh3, hh4⟩ : ∃ half : Nat, half = (Nat.max la lb + 1) / 2 ∧ half ≤ 500 ∧ 6 ≤ half ∧ (2 * half ≤ la + lb - 11 ∧ la ≤ 2 * half ∧ lb ≤ 2 * half) := by
    refine ⟨_, rfl, ?_⟩
    have m1 : la ≤ Nat.max la lb := Nat.le_max_left ..
    have m2 : lb ≤ Nat.max la lb := Nat.le_max_right ..
    have m3 : Nat.max la lb = la ∨ Nat.max la lb = lb := by rcases Nat.le_total la lb with q | q; exact .inr (Nat.max_eq_right q); exact .inl (Nat.max_eq_left q)
    omega
  have HH : Hid (half = (Nat.max la lb + 1) / 2) := hh1
  clear hh1
  go_enter Try.func94, Try.ntmps94
  go_upto_region 1 with fail
  go_cut [20] (fun bv wx => bv = .bool false ∧ w = wx)
  case first =>
    go_wp2_with fail
    all_goals
      go_meet
      case rel => exact ⟨by simp; omega, rfl⟩
  case rest =>
    obtain ⟨rfl, rfl⟩ := hcut
    go_upto_region 3 with fail
    go_cut [6] (fun hv wx => hv = .int .i64 (half : Int) ∧ w = wx)
    case first =>
      go_wp2_with fail
      all_goals
        go_meet
        case rel => exact ⟨by rw [HH.out]; (first | rw [show Nat.max la lb = lb from Nat.max_eq_right (by omega)] | rw [show Nat.max la lb = la from Nat.max_eq_left (by omega)]); go_num, rfl⟩
    case rest =>
      obtain ⟨rfl, rfl⟩ := hcut
      have hxd := h.digs
      have hyd := h'.digs
      have hcl' : Hid (∀ wx, Below w.heap.size w wx → wx.cell? ⟨g0, 0, none⟩ = some (.func (.func 94) #[] #[.pointer (some ⟨g0, 0, none⟩)])) := fun wx hb => (hb.cell (p := ⟨g0, 0, none⟩) (World.block_lt_of_cell? w _ hcl)).trans hcl
      clear hcl
      have HI : Hid (TimesOk g0 N) := IH
      clear IH
      go_wp2_with fail
      refine (parted_any _ _ _ half _ _ h (by omega) (by omega) (by omega)).mono ?_
      rintro e v1 ⟨xa1, xc1, xa2, xc2, k1, k2, rfl, hk1, hk2, hxl, hxh, hb1⟩
      have hk1' : k1 ≤ half ∧ k1 ≤ la ∧ 6 ≤ k1 ∧ k2 + k1 = la ∧ k2 ≤ half := by
        have q1 : Nat.min half la ≤ half := Nat.min_le_left ..
        have q2 : Nat.min half la ≤ la := Nat.min_le_right ..
        have q3 : Nat.min half la = half ∨ Nat.min half la = la := by rcases Nat.le_total half la with q | q; exact .inl (Nat.min_eq_left q); exact .inr (Nat.min_eq_right q)
        omega
      clear hk1 hk2
      go_wp2_with fail
      refine (parted_any _ _ _ half _ _ (h'.below hb1) (by omega) (by omega) (by omega)).mono ?_
      rintro e v2 ⟨ya1, yc1, ya2, yc2, m1, m2, rfl, hm1, hm2, hyl, hyh, hb2⟩
      have hm1' : m1 ≤ half ∧ m1 ≤ lb ∧ 6 ≤ m1 ∧ m2 + m1 = lb ∧ m2 ≤ half := by
        have q1 : Nat.min half lb ≤ half := Nat.min_le_left ..
        have q2 : Nat.min half lb ≤ lb := Nat.min_le_right ..
        have q3 : Nat.min half lb = half ∨ Nat.min half lb = lb := by rcases Nat.le_total half lb with q | q; exact .inl (Nat.min_eq_left q); exact .inr (Nat.min_eq_right q)
        omega
      clear hm1 hm2
      replace hxl := hxl.below hb2
      replace hxh := hxh.below hb2
      have hB2 := hb1.trans (hb2.mono hb1.size)
      clear hb1 hb2 h h'
      have HK : Hid (val 18446744073709551616 xs * val 18446744073709551616 ys = (val 18446744073709551616 (xs.take half) + 18446744073709551616 ^ half * val 18446744073709551616 (xs.drop half)) * (val 18446744073709551616 (ys.take half) + 18446744073709551616 ^ half * val 18446744073709551616 (ys.drop half)) ∧
          val 18446744073709551616 xs * val 18446744073709551616 ys < 18446744073709551616 ^ (la + lb)) := by
        refine ⟨by rw [← val_split', ← val_split'], ?_⟩
        have q1 := val_lt (B := 18446744073709551616) (by decide) hxd
        have q2 := val_lt (B := 18446744073709551616) (by decide) hyd
        have q3 := val_nonneg (B := 18446744073709551616) (by decide) hxd
        have q4 := val_nonneg (B := 18446744073709551616) (by decide) hyd
        rw [HL.out.1] at q1
        rw [HL.out.2] at q2
        rw [Int.pow_add]
        have q5 : val 18446744073709551616 xs * val 18446744073709551616 ys ≤ val 18446744073709551616 xs * 18446744073709551616 ^ lb := Int.mul_le_mul_of_nonneg_left (by omega) q3
        have q6 : (val 18446744073709551616 xs + 1) * 18446744073709551616 ^ lb ≤ 18446744073709551616 ^ la * 18446744073709551616 ^ lb := Int.mul_le_mul_of_nonneg_right (by omega) (Int.le_of_lt (pow_pos' (by decide) _))
        have q7 := pow_pos' (B := 18446744073709551616) (by decide) lb
        rw [Int.add_mul] at q6
        omega
      generalize hXL : xs.take half = XL at hxl HK
      generalize hXH : xs.drop half = XH at hxh HK
      generalize hYL : ys.take half = YL at hyl HK
      generalize hYH : ys.drop half = YH at hyh HK
      clear hXL hXH hYL hYH
      have c2 := hcl'.out v2 hB2
      go_wp2_with fail
      refine (HI.out _ _ _ _ _ _ _ _ _ (by omega) hxl hyl (by omega) (by omega) c2).mono ?_
      rintro e v3 ⟨Ll, gl, nl, rfl, hLl, hnl, hgl, hbl, hLd, hLv, hb3⟩
      have HLo : Hid (Ll.length = nl ∧ nl = k1 + m1 ∧ val 18446744073709551616 Ll = val 18446744073709551616 XL * val 18446744073709551616 YL) := ⟨hLl, hnl, hLv⟩
      have hnl' : nl ≤ la + lb ∧ nl ≤ 2 * half := by omega
      clear hLl hnl hLv c2
      replace hxl := hxl.below hb3
      replace hyl := hyl.below hb3
      replace hxh := hxh.below hb3
      replace hyh := hyh.below hb3
      have hB3 := hB2.trans (hb3.mono hB2.size)
      have hgl' : w.heap.size ≤ gl := by have := hB2.size; omega
      clear hb3 hgl
      have c3 := hcl'.out v3 hB3
      go_wp2_with fail
      refine (HI.out _ _ _ _ _ _ _ _ _ (by omega) hxh hyh (by omega) (by omega) c3).mono ?_
      rintro e v4 ⟨Lh, gh, nh, rfl, hLl, hnh, hgh, hbh, hLhd, hLv, hb4⟩
      have HHi : Hid (Lh.length = nh ∧ nh = k2 + m2 ∧ val 18446744073709551616 Lh = val 18446744073709551616 XH * val 18446744073709551616 YH) := ⟨hLl, hnh, hLv⟩
      have hnh' : nh ≤ la + lb - 2 * 6 ∧ nh ≤ 2 * half := by omega
      clear hLl hnh hLv c3
      replace hbl := hbl.below hb4 hbl.lt
      replace hxl := hxl.below hb4
      replace hyl := hyl.below hb4
      replace hxh := hxh.below hb4
      replace hyh := hyh.below hb4
      have hB4 := hB3.trans (hb4.mono hB3.size)
      have hgh' : w.heap.size ≤ gh := by have := hB3.size; omega
      have hgls : gl < v4.heap.size := hbl.lt
      have hghs : gh < v4.heap.size := hbh.lt
      clear hb4 hgh
      have c4 := hcl'.out v4 hB4
      go_upto_region 8 with fail
      go_cut [13] (fun mv wx => ∃ Lm gm nm, mv = .slice (some ⟨gm, 0, none⟩) nm nm ∧ Lm.length = nm ∧ (k1 + m1 ≤ nm ∧ k2 + m2 ≤ nm ∧ nm ≤ 2 * half + 2) ∧ v4.heap.size ≤ gm ∧ Blk wx gm Lm ∧ Digs 18446744073709551616 Lm ∧
          val 18446744073709551616 Lm = (val 18446744073709551616 XL + val 18446744073709551616 XH) * (val 18446744073709551616 YL + val 18446744073709551616 YH) ∧ Below v4.heap.size v4 wx)
      case first =>
        have HPx : Hid (∀ wx, Below v4.heap.size v4 wx → Calls Try.prog 76 #[.slice xa1 k1 xc1, .slice xa2 k2 xc2] wx fun e w' => ∃ L n, e = .returned (.slice (some ⟨wx.heap.size, 0, none⟩) n n) ∧ (k1 + 1 ≤ n ∧ k2 + 1 ≤ n ∧ n ≤ half + 1) ∧ Nums w' (some ⟨wx.heap.size, 0, none⟩) n n L ∧
            val 18446744073709551616 L = val 18446744073709551616 XL + val 18446744073709551616 XH ∧ Below v4.heap.size v4 w' ∧ Below wx.heap.size wx w') := by
          intro wx hbx
          refine (plus_any _ _ _ _ _ _ _ _ _ (hxl.below hbx) (hxh.below hbx) (by omega) (by omega)).mono ?_
          rintro e w' ⟨L, n, rfl, hl, hn, hblk, hd, hv, hb⟩
          have q1 : k1 ≤ Nat.max k1 k2 := Nat.le_max_left ..
          have q2 : k2 ≤ Nat.max k1 k2 := Nat.le_max_right ..
          have q3 : Nat.max k1 k2 ≤ half := Nat.max_le.2 ⟨by omega, by omega⟩
          exact ⟨L, n, rfl, by omega, hblk.nums hd hl (by omega), hv, hbx.trans (hb.mono hbx.size), hb⟩
        have HPy : Hid (∀ wx, Below v4.heap.size v4 wx → Calls Try.prog 76 #[.slice ya1 m1 yc1, .slice ya2 m2 yc2] wx fun e w' => ∃ L n, e = .returned (.slice (some ⟨wx.heap.size, 0, none⟩) n n) ∧ (m1 + 1 ≤ n ∧ m2 + 1 ≤ n ∧ n ≤ half + 1) ∧ Nums w' (some ⟨wx.heap.size, 0, none⟩) n n L ∧
            val 18446744073709551616 L = val 18446744073709551616 YL + val 18446744073709551616 YH ∧ Below v4.heap.size v4 w' ∧ Below wx.heap.size wx w') := by
          intro wx hbx
          refine (plus_any _ _ _ _ _ _ _ _ _ (hyl.below hbx) (hyh.below hbx) (by omega) (by omega)).mono ?_
          rintro e w' ⟨L, n, rfl, hl, hn, hblk, hd, hv, hb⟩
          have q1 : m1 ≤ Nat.max m1 m2 := Nat.le_max_left ..
          have q2 : m2 ≤ Nat.max m1 m2 := Nat.le_max_right ..
          have q3 : Nat.max m1 m2 ≤ half := Nat.max_le.2 ⟨by omega, by omega⟩
          exact ⟨L, n, rfl, by omega, hblk.nums hd hl (by omega), hv, hbx.trans (hb.mono hbx.size), hb⟩
        have HT : Hid (∀ wx p1 n1 L1 p2 n2 L2, Nums wx p1 n1 n1 L1 → Nums wx p2 n2 n2 L2 → Below v4.heap.size v4 wx → val 18446744073709551616 L1 = val 18446744073709551616 XL + val 18446744073709551616 XH → val 18446744073709551616 L2 = val 18446744073709551616 YL + val 18446744073709551616 YH →
            (k1 + 1 ≤ n1 ∧ k2 + 1 ≤ n1 ∧ n1 ≤ half + 1) → (m1 + 1 ≤ n2 ∧ m2 + 1 ≤ n2 ∧ n2 ≤ half + 1) →
            Calls Try.prog 94 #[.slice p1 n1 n1, .slice p2 n2 n2, .pointer (some ⟨g0, 0, none⟩)] wx fun e w' => ∃ Lm gm nm, e = .returned (.slice (some ⟨gm, 0, none⟩) nm nm) ∧ Lm.length = nm ∧ (k1 + m1 ≤ nm ∧ k2 + m2 ≤ nm ∧ nm ≤ 2 * half + 2) ∧ v4.heap.size ≤ gm ∧ Blk w' gm Lm ∧ Digs 18446744073709551616 Lm ∧
              val 18446744073709551616 Lm = (val 18446744073709551616 XL + val 18446744073709551616 XH) * (val 18446744073709551616 YL + val 18446744073709551616 YH) ∧ Below v4.heap.size v4 w') := by
          intro wx p1 n1 L1 p2 n2 L2 hp1 hp2 hbx hv1 hv2 hn1 hn2
          refine (HI.out _ _ _ _ _ _ _ _ wx (by omega) hp1 hp2 (by omega) (by omega) (hcl'.out wx (hB4.trans (hbx.mono hB4.size)))).mono ?_
          rintro e w' ⟨L, g, n, rfl, hl, hn, hg, hblk, hd, hv, hb⟩
          exact ⟨L, g, n, rfl, hl, by omega, by have := hbx.size; omega, hblk, hd, by rw [hv, hv1, hv2], hbx.trans (hb.mono hbx.size)⟩
        have HS : Hid (∀ wx, Below v4.heap.size v4 wx → wx.cell? ⟨g0, 0, none⟩ = some (.func (.func 94) #[] #[.pointer (some ⟨g0, 0, none⟩)])) := fun wx hb => hcl'.out wx (hB4.trans (hb.mono hB4.size))
        clear HLo HHi HK hnl' hnh' hbl hbh hcl' HI hB4 hB3 hB2
        go_region_held3 (fun w' => w'.cell? ⟨g0, 0, none⟩ = some (.func (.func 94) #[] #[.pointer (some ⟨g0, 0, none⟩)])) (first | exact HS.out _ ⟨hB8.os, hB8.tape, hB8.output, hB8.size, hB8.block⟩ | exact HS.out _ ⟨hBy.os, hBy.tape, hBy.output, hBy.size, hBy.block⟩ | exact HS.out _ ⟨hBx.os, hBx.tape, hBx.output, hBx.size, hBx.block⟩ | exact HS.out _ ⟨rfl, rfl, rfl, Nat.le_refl _, fun _ _ => rfl⟩)
          (first
            | (go_at_call_of 76 (Value.slice xa1 k1 xc1); refine (HPx.out _ ?_).mono ?_; (first | exact ⟨hBy.os, hBy.tape, hBy.output, hBy.size, hBy.block⟩ | exact ⟨rfl, rfl, rfl, Nat.le_refl _, fun _ _ => rfl⟩); rintro e w6 ⟨Lx, nx, rfl, hnx, hX, hvx, hBx, hFx⟩)
            | (go_at_call_of 76 (Value.slice ya1 m1 yc1); refine (HPy.out _ ?_).mono ?_; (first | exact ⟨hBx.os, hBx.tape, hBx.output, hBx.size, hBx.block⟩ | exact ⟨rfl, rfl, rfl, Nat.le_refl _, fun _ _ => rfl⟩); rintro e w7 ⟨Ly, ny, rfl, hny, hY, hvy, hBy, hFy⟩)
            | (go_at_call 94; refine (HT.out _ _ nx Lx _ ny Ly ?_ ?_ ?_ hvx hvy hnx hny).mono ?_; (first | exact ⟨(hX.below hFy).hlen, (hX.below hFy).hcap, (hX.below hFy).hmax, (hX.below hFy).cells, (hX.below hFy).word⟩ | exact ⟨hX.hlen, hX.hcap, hX.hmax, hX.cells, hX.word⟩); (first | exact ⟨hY.hlen, hY.hcap, hY.hmax, hY.cells, hY.word⟩ | exact ⟨(hY.below hFx).hlen, (hY.below hFx).hcap, (hY.below hFx).hmax, (hY.below hFx).cells, (hY.below hFx).word⟩); (first | exact ⟨hBy.os, hBy.tape, hBy.output, hBy.size, hBy.block⟩ | exact ⟨hBx.os, hBx.tape, hBx.output, hBx.size, hBx.block⟩); rintro e w8 ⟨Lm, gm, nm, rfl, hm1, hm2, hm3, hm4, hm5, hm6, hB8⟩))
        all_goals
          clear HPx HPy HT HS
          go_wp2_with fail
          go_meet
          case rel => exact ⟨Lm, gm, nm, rfl, hm1, hm2, hm3, hm4, hm5, hm6, ⟨hB8.os, hB8.tape, hB8.output, hB8.size, hB8.block⟩⟩
      case rest =>
        obtain ⟨Lm, gm, nm, rfl, hm1, hm2, hm3, hbm, hmd, hmv, hb5⟩ := hcut
        have HMi : Hid (Lm.length = nm ∧ val 18446744073709551616 Lm = (val 18446744073709551616 XL + val 18446744073709551616 XH) * (val 18446744073709551616 YL + val 18446744073709551616 YH)) := ⟨hm1, hmv⟩
        have hXLn := val_nonneg (B := 18446744073709551616) (by decide) hxl.digs
        have hXHn := val_nonneg (B := 18446744073709551616) (by decide) hxh.digs
        have hYLn := val_nonneg (B := 18446744073709551616) (by decide) hyl.digs
        have hYHn := val_nonneg (B := 18446744073709551616) (by decide) hyh.digs
        clear hxl hxh hyl hyh hm1 hmv c4 HI hcl'
        have hBl := hbl.below hb5 hgls
        have hBh := hbh.below hb5 hghs
        have hB5 := hB4.trans (hb5.mono hB4.size)
        have hlowN := hBl.nums hLd HLo.out.1 (by omega)
        have hhighN := hBh.nums hLhd HHi.out.1 (by omega)
        have hge1 : val 18446744073709551616 Ll ≤ val 18446744073709551616 Lm := by
          rw [HLo.out.2.2, HMi.out.2, Int.add_mul, Int.mul_add, Int.mul_add]
          have := mul_nn hXLn hYHn; have := mul_nn hXHn hYLn; have := mul_nn hXHn hYHn
          omega
        have HG1 : Hid (val 18446744073709551616 Ll ≤ val 18446744073709551616 Lm) := hge1
        clear hge1
        go_wp2_with fail
        refine (takeFrom_any _ gm 0 nm _ Lm _ nl nl Ll _ (fun _ => rfl) (fun _ => hbm) hmd (by have := HMi.out.1; omega) (by omega) hlowN (fun _ x hx => by cases hx; simp; omega)).mono ?_
        rintro e v6 ⟨M1, bw1, rfl, hbM1, hM1d, hM1l, -, hbw1, hv1, hg6⟩
        have hv1' := take_end (by decide) hM1d HMi.out.1 hM1l (by have := HLo.out; omega) HG1.out hbw1 hv1
        have HM1 : Hid (M1.length = nm ∧ val 18446744073709551616 M1 = val 18446744073709551616 Lm - val 18446744073709551616 Ll) := ⟨hM1l.trans HMi.out.1, hv1'⟩
        replace hbM1 := hbM1 (by omega)
        have hBl6 := hBl.grown hg6 (by simp; omega)
        have hBh6 := hBh.grown hg6 (by simp; omega)
        have hhighN6 := hBh6.nums hLhd HHi.out.1 (by omega)
        have hB6 := hB5.trans (below_of_grown hg6 (by have := hB4.size; omega) hB5.size)
        clear hv1 hv1' hM1l hg6 hBl hBh hlowN hhighN hB5 hbm hmd hb5
        have hge2 : val 18446744073709551616 Lh ≤ val 18446744073709551616 M1 := by
          rw [HM1.out.2, HHi.out.2.2, HMi.out.2, HLo.out.2.2, Int.add_mul, Int.mul_add, Int.mul_add]
          have := mul_nn hXLn hYHn; have := mul_nn hXHn hYLn
          omega
        have HG2 : Hid (val 18446744073709551616 Lh ≤ val 18446744073709551616 M1) := hge2
        clear hge2
        go_wp2_with fail
        refine (takeFrom_any _ gm 0 nm _ M1 _ nh nh Lh _ (fun _ => rfl) (fun _ => hbM1) hM1d (by have := HM1.out.1; omega) (by omega) hhighN6 (fun _ x hx => by cases hx; simp; omega)).mono ?_
        rintro e v7 ⟨M2, bw2, rfl, hbM2, hM2d, hM2l, -, hbw2, hv2, hg7⟩
        have hv2' := take_end (by decide) hM2d HM1.out.1 hM2l (by have := HHi.out; omega) HG2.out hbw2 hv2
        have HM2 : Hid (M2.length = nm ∧ val 18446744073709551616 M2 = (val 18446744073709551616 XL + val 18446744073709551616 XH) * (val 18446744073709551616 YL + val 18446744073709551616 YH) - val 18446744073709551616 XL * val 18446744073709551616 YL - val 18446744073709551616 XH * val 18446744073709551616 YH) :=
          ⟨hM2l.trans HM1.out.1, by rw [hv2', HM1.out.2, HMi.out.2, HLo.out.2.2, HHi.out.2.2]⟩
        replace hbM2 := hbM2 (by omega)
        have hBl7 := hBl6.grown hg7 (by simp; omega)
        have hBh7 := hBh6.grown hg7 (by simp; omega)
        have hB7 := hB6.trans (below_of_grown hg7 (by have := hB4.size; omega) hB6.size)
        clear hv2 hv2' hM2l hg7 hBl6 hBh6 hhighN6 hB6 hbM1 hM1d HM1 HG1 HG2
        have hlowN := hBl7.nums hLd HLo.out.1 (by omega)
        go_wp2_with (at_make; refine wpList_mk _ rfl _ _ 23 rfl Try.underlying23 .i64 .i64 _ _ (la + lb) rfl rfl (by omega) (by omega) (by omega) ?_)
        intro v8 hb8 hbel8 hsz8
        have hlowN8 := hlowN.below hbel8
        have hBl8 := hBl7.below hbel8 hBl7.lt
        have hBh8 := hBh7.below hbel8 hBh7.lt
        have hbM8 := hbM2.below hbel8 hbM2.lt
        have hB8 := hB7.trans (hbel8.mono hB7.size)
        have hglp := hBl7.lt
        have hghp := hBh7.lt
        have hgmp := hbM2.lt
        have hpge := hB7.size
        obtain ⟨gp, hgp⟩ : ∃ gp, gp = v7.heap.size := ⟨_, rfl⟩
        rw [← hgp] at hb8 hglp hghp hgmp hpge ⊢
        clear hgp hlowN hBl7 hBh7 hbM2 hbel8 hB7 hsz8
        have HK2 : Hid (val 18446744073709551616 Ll + 18446744073709551616 ^ half * val 18446744073709551616 M2 + 18446744073709551616 ^ (2 * half) * val 18446744073709551616 Lh = val 18446744073709551616 xs * val 18446744073709551616 ys ∧
            0 ≤ 18446744073709551616 ^ half * val 18446744073709551616 M2 ∧ 0 ≤ 18446744073709551616 ^ (2 * half) * val 18446744073709551616 Lh ∧ 0 ≤ val 18446744073709551616 Ll) := by
          have hp := pow_pos' (B := 18446744073709551616) (by decide) half
          have hp2 := pow_pos' (B := 18446744073709551616) (by decide) (2 * half)
          refine ⟨?_, mul_nn (Int.le_of_lt hp) (val_nonneg (by decide) hM2d), mul_nn (Int.le_of_lt hp2) (val_nonneg (by decide) hLhd), val_nonneg (by decide) hLd⟩
          rw [HK.out.1, kara, HM2.out.2, HLo.out.2.2, HHi.out.2.2, show 2 * half = half + half by omega, Int.pow_add, Int.mul_assoc]
        go_wp2_with (refine wpList_cp _ (by rfl) _ _ 23 23 (by rfl) Try.underlying23 gp (la + lb) (la + lb) _ (by rfl) hb8 (by simp [noughts]) _ _ _ Ll (by rfl) hlowN8 (by omega) ?_)
        intro v9 hb9 hg9 hsz9
        rw [over_noughts] at hb9
        have hBh9 := hBh8.grown hg9 (by simp; omega)
        have hbM9 := hbM8.grown hg9 (by simp; omega)
        have hB9 := hB8.trans (below_of_grown hg9 hpge hB8.size)
        have HP9 : Hid ((Ll ++ List.replicate (la + lb - nl) 0).length = la + lb ∧ val 18446744073709551616 (Ll ++ List.replicate (la + lb - nl) 0) = val 18446744073709551616 Ll ∧ Digs 18446744073709551616 (Ll ++ List.replicate (la + lb - nl) 0)) :=
          ⟨by simp [HLo.out.1]; omega, val_pad _ _, hLd.pad _⟩
        generalize Ll ++ List.replicate (la + lb - nl) 0 = P9 at hb9 HP9
        have hmidN := hbM9.nums hM2d HM2.out.1 (by omega)
        clear hb8 hg9 hsz9 hlowN8 hBl8 hBh8 hbM8 hB8 hLd
        have hne1 : ¬ la + lb = half := by omega
        have hhi1 : (half : Int) ≤ (la : Int) + (lb : Int) := by omega
        go_wp2_with fail
        refine (addTo_any _ gp half (la + lb - half) _ P9 _ nm nm M2 _ (fun _ => rfl) hb9 HP9.out.2.2 (by have := HP9.out.1; omega) (by omega) hmidN (fun _ x hx => by cases hx; simp; omega)).mono ?_
        rintro e v10 ⟨M3, cy3, rfl, hb10, hM3d, hM3l, hM3s, hcy3, hv3, hg10⟩
        have hv3' := add_end (n := la + lb - half) (by decide) hM3d hM2d (by have := HP9.out.1; omega) hM3l hM3s hcy3 hv3 (by
          rw [show half + (la + lb - half) = la + lb by omega, HP9.out.2.1]
          have := HK2.out; have := HK.out.2; omega) (by rw [HP9.out.2.1]; exact HK2.out.2.2.2)
        have HM3 : Hid (M3.length = la + lb ∧ val 18446744073709551616 M3 = val 18446744073709551616 Ll + 18446744073709551616 ^ half * val 18446744073709551616 M2) := ⟨hM3l.trans HP9.out.1, by rw [hv3', HP9.out.2.1]⟩
        have hBh10 := hBh9.grown hg10 (by simp; omega)
        have hB10 := hB9.trans (below_of_grown hg10 hpge hB9.size)
        have hhighN := hBh10.nums hLhd HHi.out.1 (by omega)
        clear hv3 hv3' hM3l hM3s hg10 hBh9 hbM9 hB9 hb9 hmidN hM2d
        have hne2 : ¬ la + lb = 2 * half := by omega
        have hhi2 : 2 * (half : Int) ≤ (la : Int) + (lb : Int) := by omega
        go_wp2_with fail
        refine (addTo_any _ gp (2 * half) (la + lb - 2 * half) _ M3 _ nh nh Lh _ (fun _ => rfl) hb10 hM3d (by have := HM3.out.1; omega) (by omega) hhighN (fun _ x hx => by cases hx; simp; omega)).mono ?_
        rintro e v11 ⟨M4, cy4, rfl, hb11, hM4d, hM4l, hM4s, hcy4, hv4, hg11⟩
        have hv4' := add_end (n := la + lb - 2 * half) (by decide) hM4d hLhd (by have := HM3.out.1; omega) hM4l hM4s hcy4 hv4 (by
          rw [show 2 * half + (la + lb - 2 * half) = la + lb by omega, HM3.out.2]
          have := HK2.out; have := HK.out.2; omega) (by rw [HM3.out.2]; have := HK2.out; omega)
        have HM4 : Hid (M4.length = la + lb ∧ val 18446744073709551616 M4 = val 18446744073709551616 xs * val 18446744073709551616 ys) := ⟨hM4l.trans HM3.out.1, by rw [hv4', HM3.out.2]; exact HK2.out.1⟩
        have hB11 := hB10.trans (below_of_grown hg11 hpge hB10.size)
        clear hv4 hv4' hM4l hM4s hg11 hBh10 hB10 hb10 hhighN
        go_wp2_with fail
        go_ret
        exact ⟨M4, gp, _, rfl, HM4.out.1, rfl, hpge, hb11, hM4d, HM4.out.2, hB11⟩
theorem times_all (g0 : Nat) : ∀ N, TimesOk g0 N
  | 0 => fun a b la ca lb cb xs ys w hlt => by omega
  | N + 1 => fun a b la ca lb cb xs ys w hlt h h' hla hlb hc => by
    by_cases hs : la < 12 ∨ lb < 12
    · exact times_small g0 a b la ca lb cb xs ys w h h' hla hlb hs
    · exact times_big g0 N (times_all g0 N) a b la ca lb cb xs ys w (by omega) h h' hla hlb (by omega) (by omega) hc

set_option maxHeartbeats 400000 in
theorem product_any (a b : Option Addr) (la ca lb cb : Nat) (xs ys : List Int) (w : World) (h : Nums w a la ca xs) (h' : Nums w b lb cb ys) (hla : la ≤ 64) (hlb : lb ≤ 64) :
    Calls Try.prog 75 #[.slice a la ca, .slice b lb cb] w fun e w' => ∃ L g n, e = .returned (.slice (some ⟨g, 0, none⟩) n n) ∧ L.length = n ∧ n = la + lb ∧ w.heap.size ≤ g ∧
      Blk w' g L ∧ Digs 18446744073709551616 L ∧ val 18446744073709551616 L = val 18446744073709551616 xs * val 18446744073709551616 ys ∧ Below w.heap.size w w' := by
  have hb0 := (Below.refl w.heap.size w).alloc (Nat.le_refl _) (.cells #[clos w.heap.size] 35)
  have hT := times_all w.heap.size (la + lb + 1) a b la ca lb cb xs ys _ (by omega) (h.below hb0) (h'.below hb0) (by omega) (by omega) (by simp [clos])
  go_enter Try.func75, Try.ntmps75
  go_wp2_with fail
  refine hT.mono ?_
  rintro e w' ⟨L, g, n, rfl, h1, h2, h3, h4, h5, h6, h7⟩
  have HH : Hid (L.length = n ∧ n = la + lb ∧ val 18446744073709551616 L = val 18446744073709551616 xs * val 18446744073709551616 ys) := ⟨h1, h2, h6⟩
  have hbe := hb0.trans (h7.mono (by simp))
  have hge : w.heap.size ≤ g := by have := h3; simp at this; omega
  clear h1 h2 h6 hT h7 h3
  go_wp2_with fail
  go_ret
  exact ⟨L, g, n, rfl, HH.out.1, HH.out.2.1, hge, h4, h5, HH.out.2.2, hbe⟩
end Go.Proofs.Ytaipkganijofjab
