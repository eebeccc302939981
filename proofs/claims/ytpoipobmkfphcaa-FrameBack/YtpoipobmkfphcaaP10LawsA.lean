/-
  Stage 10's laws: the walks of FrameSums, FrameEncodes, FrameDecodes, FrameBack. Written by mk/p10a.py.
-/
import Derived.Test.YtpoipobmkfphcaaP10LawsO
namespace Go.Proofs.Ytpoipobmkfphcaa
open Go.RowKit

set_option maxRecDepth 100000 in
set_option maxHeartbeats 6000000 in
theorem sums10_walk (HS : SumOk10) (a : Option Addr) (la ca : Nat) (bs : List Int) (w : World) (H : Byts w a la ca bs) (hnil : a = none → ca = 0) : Calls Try.prog 3 #[.slice a la ca] w fun e w' => e = .returned (.bool true) ∧ Below w.heap.size w w' := by
  have hcap := H.hcap
  have hmax := H.hmax
  unfold maxLen at hmax
  by_cases hb : 3000000 < la
  · have hbi : (3000000 : Int) < (la : Int) := by omega
    clear H
    go_enter Try.func3, Try.ntmps3
    go_wp2
    go_ret
    exact ⟨rfl, Below.refl _ _⟩
  have hbi : decide ((3000000 : Int) < (la : Int)) = false := decide_eq_false (by omega)
  have hv := balloc w (.cells #[.int .u8 49, .int .u8 50, .int .u8 51, .int .u8 52, .int .u8 53, .int .u8 54, .int .u8 55, .int .u8 56, .int .u8 57] 5 (9, 10))
  have kc := fun (w : World) (C : Array Value) (n c : Nat) => Lib.run_convert_bytes_const (P := Try.prog) w 22 5 C n c Try.underlying22 Try.underlying5
  have n9 := Byts.litM w [49, 50, 51, 52, 53, 54, 55, 56, 57] (fun x hx => by simp at hx; omega) 9 rfl (by decide) #[.int .u8 49, .int .u8 50, .int .u8 51, .int .u8 52, .int .u8 53, .int .u8 54, .int .u8 55, .int .u8 56, .int .u8 57] rfl (9, 10)
  have HS9 := (show Hid _ from HS _ _ _ _ _ n9 (fun e => by cases e) (by decide))
  rw [show sumC [49, 50, 51, 52, 53, 54, 55, 56, 57] = 3421780262 by decide +kernel] at HS9
  clear n9
  go_enter Try.func3, Try.ntmps3
  go_wp2_with fail
  refine Calls.mono HS9.out ?_
  rintro e w1 ⟨rfl, hb1⟩
  have hB1 := bthen hv hb1
  clear HS9 hv hb1 kc
  go_wp2_with fail
  refine (HS _ _ _ _ _ (H.below hB1) hnil (by omega)).mono ?_
  rintro e w2 ⟨rfl, hb2⟩
  have hB2 := bthen hB1 hb2
  have hH := H.below hB2
  obtain ⟨S, hS⟩ : ∃ S, S = sumC bs := ⟨_, rfl⟩
  have HD := (show Hid _ from r10sum_any _ _ _ _ _ hH)
  rw [← hS] at HD
  rw [← hS]
  clear hb2 hB1 hS H hH
  go_wp2_with fail
  refine Calls.mono HD.out ?_
  rintro e w3 ⟨rfl, rfl⟩
  clear HD
  go_wp2
  go_ret
  exact ⟨by simp, hB2⟩

set_option maxRecDepth 100000 in
set_option maxHeartbeats 6000000 in
theorem encodes10_walk (HE : EncOk10) (d : Bool) (s a : Int) (b : Option Addr) (lb cb : Nat) (body : List Int) (w : World) (H : Byts w b lb cb body) (hnil : b = none → cb = 0) (hs : -9223372036854775808 ≤ s ∧ s < 9223372036854775808) (ha : -9223372036854775808 ≤ a ∧ a < 9223372036854775808) : Calls Try.prog 4 #[.agg #[.bool d, .int .i64 s, .int .i64 a, .slice b lb cb]] w fun e w' => e = .returned (.bool true) ∧ Below w.heap.size w w' := by
  have hcap := H.hcap
  have hmax := H.hmax
  unfold maxLen at hmax
  have HL : Hid (body.length = lb) := H.hlen
  obtain ⟨V, hVe⟩ : ∃ V, V = w.alloc (.cells #[.bool d, .int .i64 s, .int .i64 a, .slice b lb cb] 27) := ⟨_, rfl⟩
  have hV := balloc w (.cells #[.bool d, .int .i64 s, .int .i64 a, .slice b lb cb] 27)
  have hC := CellF.new w d s a b lb cb
  rw [← hVe] at hV hC
  have HVe : Hid (V = w.alloc (.cells #[.bool d, .int .i64 s, .int .i64 a, .slice b lb cb] 27)) := hVe
  replace H := H.below hV
  clear hVe
  go_enter Try.func4, Try.ntmps4
  go_wp2_with fail
  rw [← HVe.out]
  obtain ⟨G, hG⟩ : ∃ G, G = w.heap.size := ⟨_, rfl⟩
  rw [← hG] at hC
  rw [← hG]
  clear HVe hG
  refine (HE d s a b lb cb body _ H hnil hs ha).mono ?_
  rintro e w1 ⟨xa, xl, xc, xs, xe, rfl, hX, hx, -, hb1⟩
  have hB1 := bthen hV hb1
  replace H := H.below hb1
  obtain ⟨c0, c1, c2, c3, -, -, -, -⟩ := hC.below hb1
  have HX : Hid (ResEnc d s a body xs xe) := hx
  clear hV hb1 hx hC
  go_wp2_with fail
  refine (r10enc_any d s a b lb cb body _ H hnil).mono ?_
  rintro e w2 ⟨ya, yl, yc, ys, ye, rfl, hY, hy, -, hb2⟩
  obtain ⟨rfl, rfl⟩ := HX.out.unique hy
  have hB2 := bthen hB1 hb2
  replace hX := hX.below hb2
  clear hB1 hb2 hy HX H c0 c1 c2 c3
  go_wp2_with fail
  refine (HE false 0 0 none 0 0 [] _ (Byts.nil _) (fun _ => rfl) (by decide) (by decide)).mono ?_
  rintro e w3 ⟨za, zl, zc, zs, ze, rfl, hZ, hz, -, hb3⟩
  have hB3 := bthen hB2 hb3
  have hl := enc_zero hz
  rw [hZ.hlen] at hl
  subst hl
  obtain ⟨S, hS⟩ : ∃ S, S = strOf xs := ⟨_, rfl⟩
  have q1 := conv_any (hX.below hb3)
  have q2 := conv_any (hY.below hb3)
  rw [← hS] at q1 q2
  have hee : (xe == xe) = true := by simp
  clear hb3 hX hY hZ hz hB2 hS
  go_wp2
  go_ret
  exact ⟨by simp, hB3⟩

set_option maxRecDepth 100000 in
set_option maxHeartbeats 6000000 in
theorem decodes10_walk (HD : DecOk10) (a : Option Addr) (la ca : Nat) (bs : List Int) (w : World) (H : Byts w a la ca bs) (hnil : a = none → ca = 0) : Calls Try.prog 5 #[.slice a la ca] w fun e w' => e = .returned (.bool true) ∧ Below w.heap.size w w' := by
  have hcap := H.hcap
  have hmax := H.hmax
  unfold maxLen at hmax
  by_cases hb : 3000000 < la
  · have hbi : (3000000 : Int) < (la : Int) := by omega
    clear H
    go_enter Try.func5, Try.ntmps5
    go_wp2
    go_ret
    exact ⟨rfl, Below.refl _ _⟩
  have hbi : decide ((3000000 : Int) < (la : Int)) = false := decide_eq_false (by omega)
  go_enter Try.func5, Try.ntmps5
  go_wp2_with fail
  refine (HD a la ca bs _ H hnil (by omega)).mono ?_
  rintro e w1 ⟨xd, xs, xa, xp, xl, xc, xb, xe, rfl, hX, hx, -, hb1⟩
  have h1 := balloc w1 (.cells #[.bool xd, .int .i64 xs, .int .i64 xa, .slice xp xl xc] 27)
  have hB1 := bthen hb1 h1
  have hC1 := CellF.new w1 xd xs xa xp xl xc
  replace hX := hX.below h1
  have HX : Hid (ResDec bs xd xs xa xb xe) := hx
  have HDo := (show Hid _ from r10dec_any a la ca bs _ (H.below hB1) hnil (by omega))
  clear hx hb1 h1
  go_wp2_with fail
  refine Calls.mono HDo.out ?_
  rintro e w2 ⟨yd, ys, ya, yp, yl, yc, yb, ye, rfl, hY, hy, -, hb2⟩
  obtain ⟨⟨rfl, rfl, rfl, rfl⟩, rfl⟩ := HX.out.unique hy
  have h2 := balloc w2 (.cells #[.bool xd, .int .i64 xs, .int .i64 xa, .slice yp yl yc] 27)
  have b12 := bthen hb2 h2
  have hB2 := bthen hB1 b12
  replace hX := hX.below b12
  replace hY := hY.below h2
  obtain ⟨c0, c1, c2, c3, -, -, -, -⟩ := hC1.below b12
  obtain ⟨d0, d1, d2, d3, -, -, -, -⟩ := CellF.new w2 xd xs xa yp yl yc
  have HSa := (show Hid _ from r10same_eq xd xs xa _ _ _ _ _ _ _ _ hX hY)
  clear hB1 hb2 h2 b12 hy HX HDo hC1 hX hY H
  go_wp2_with fail
  refine Calls.mono HSa.out ?_
  rintro e w3 ⟨rfl, hb3⟩
  have hB3 := bthen hB2 hb3
  clear hB2 hb3 HSa c0 c1 c2 c3 d0 d1 d2 d3
  go_wp2_with fail
  refine (HD none 0 0 [] _ (Byts.nil _) (fun _ => rfl) (by decide)).mono ?_
  rintro e w4 ⟨zd, zs, za, zp, zl, zc, zb, ze, rfl, -, hz, -, hb4⟩
  obtain rfl := dec_nil hz
  have hB4 := bthen (bthen hB3 hb4) (balloc w4 (.cells #[.bool zd, .int .i64 zs, .int .i64 za, .slice zp zl zc] 27))
  have hee : (xe == xe) = true := by simp
  clear hB3 hb4 hz
  go_wp2
  go_ret
  exact ⟨by simp, hB4⟩

set_option maxRecDepth 100000 in
set_option maxHeartbeats 6000000 in
theorem back10_walk (HE : EncOk10) (HD : DecOk10) (d : Bool) (s a : Int) (b : Option Addr) (lb cb : Nat) (body : List Int) (w : World) (H : Byts w b lb cb body) (hnil : b = none → cb = 0) (hs : -9223372036854775808 ≤ s ∧ s < 9223372036854775808) (ha : -9223372036854775808 ≤ a ∧ a < 9223372036854775808) : Calls Try.prog 6 #[.agg #[.bool d, .int .i64 s, .int .i64 a, .slice b lb cb]] w fun e w' => e = .returned (.bool true) ∧ Below w.heap.size w w' := by
  have hcap := H.hcap
  have hmax := H.hmax
  unfold maxLen at hmax
  have HL : Hid (body.length = lb) := H.hlen
  obtain ⟨V, hVe⟩ : ∃ V, V = w.alloc (.cells #[.bool d, .int .i64 s, .int .i64 a, .slice b lb cb] 27) := ⟨_, rfl⟩
  have hV := balloc w (.cells #[.bool d, .int .i64 s, .int .i64 a, .slice b lb cb] 27)
  have hC := CellF.new w d s a b lb cb
  rw [← hVe] at hV hC
  have HVe : Hid (V = w.alloc (.cells #[.bool d, .int .i64 s, .int .i64 a, .slice b lb cb] 27)) := hVe
  replace H := H.below hV
  clear hVe
  go_enter Try.func6, Try.ntmps6
  go_wp2_with fail
  rw [← HVe.out]
  obtain ⟨G, hG⟩ : ∃ G, G = w.heap.size := ⟨_, rfl⟩
  rw [← hG] at hC
  rw [← hG]
  clear HVe hG
  refine (HE d s a b lb cb body _ H hnil hs ha).mono ?_
  rintro e w1 ⟨xa, xl, xc, xs, xe, rfl, hX, hx, ⟨xn, -⟩, hb1⟩
  have hB1 := bthen hV hb1
  replace H := H.below hb1
  obtain ⟨c0, c1, c2, c3, -, -, -, -⟩ := hC.below hb1
  have HX : Hid (ResEnc d s a body xs xe) := hx
  clear hV hb1 hx hC
  go_wp2_with fail
  refine (r10right_any d s a b lb cb _ (by omega)).mono ?_
  rintro e w2 ⟨rfl, hb2⟩
  have hB2 := bthen hB1 hb2
  replace hX := hX.below hb2
  replace H := H.below hb2
  replace c0 := bkeep hb2 c0 rfl
  replace c1 := bkeep hb2 c1 rfl
  replace c2 := bkeep hb2 c2 rfl
  replace c3 := bkeep hb2 c3 rfl
  clear hB1 hb2
  cases hr : rightFr d s a lb with
  | false =>
    obtain rfl : xe = 1 := by
      rcases HX.out with ⟨h1, _, _⟩ | ⟨_, _, rfl⟩
      · rw [HL.out, hr] at h1; cases h1
      · rfl
    clear H hX HX c0 c1 c2 c3
    go_wp2
    go_ret
    exact ⟨by simp, hB2⟩
  | true =>
    have hr' : rightFr d s a body.length = true := by rw [HL.out]; exact hr
    obtain ⟨hE, rfl⟩ : IsEnc d s a body xs ∧ xe = 0 := by
      rcases HX.out with ⟨_, h2, h3⟩ | ⟨h1, _, _⟩
      · exact ⟨h2, h3⟩
      · rw [hr'] at h1; cases h1
    obtain ⟨l8, l35⟩ := enc_len hE hr'
    have h5 := ((rightFr_iff d s a lb).1 hr).2.2.2.2.1
    have hLx := hX.hlen
    have hll := HL.out
    have hxl : 8 ≤ xl ∧ xl ≤ 140737488355300 := by omega
    have hx0 : (0 : Int) < (xl : Int) := by omega
    have HRE : Hid (rightFr d s a body.length = true ∧ IsEnc d s a body xs) := ⟨hr', hE⟩
    clear HX hr hr' hE l8 l35 h5 hLx hll
    go_wp2_with fail
    refine (HD xa xl xc xs _ hX xn hxl.2).mono ?_
    rintro e w3 ⟨yd, ys, ya, yp, yl, yc, yb, ye, rfl, hY, hy, -, hb3⟩
    obtain ⟨⟨rfl, rfl, rfl, rfl⟩, rfl⟩ := hy.unique (.inl ⟨HRE.out.1, HRE.out.2, rfl⟩)
    have h3 := balloc w3 (.cells #[.bool yd, .int .i64 ys, .int .i64 ya, .slice yp yl yc] 27)
    have b3 := bthen hb3 h3
    have hB3 := bthen hB2 b3
    replace H := H.below b3
    replace hY := hY.below h3
    replace c0 := bkeep b3 c0 rfl
    replace c1 := bkeep b3 c1 rfl
    replace c2 := bkeep b3 c2 rfl
    replace c3 := bkeep b3 c3 rfl
    obtain ⟨d0, d1, d2, d3, -, -, -, -⟩ := CellF.new w3 yd ys ya yp yl yc
    have HSa := (show Hid _ from r10same_eq yd ys ya _ _ _ _ _ _ _ _ hY H)
    clear hB2 hb3 h3 b3 hy hY H hX HRE
    go_wp2_with fail
    refine Calls.mono HSa.out ?_
    rintro e w4 ⟨rfl, hb4⟩
    have hB4 := bthen hB3 hb4
    clear hB3 hb4 HSa c0 c1 c2 c3 d0 d1 d2 d3
    go_wp2
    go_ret
    exact ⟨by simp, hB4⟩

end Go.Proofs.Ytpoipobmkfphcaa
