/-
  Stage 10's laws: the walks of FrameAll, FrameTurned. Written by mk/p10t.py.
-/
import Derived.Test.YtpoipobmkfphcaaP10LawsO
import Derived.Deep.RegionHeld3
import Derived.BigRegion
namespace Go.Proofs.Ytpoipobmkfphcaa
open Go.RowKit

set_option maxRecDepth 100000 in
set_option maxHeartbeats 6000000 in
theorem all10_walk (HS : SumOk10) (a : Option Addr) (la ca : Nat) (bs : List Int) (w : World) (H : Byts w a la ca bs) (hnil : a = none → ca = 0) : Calls Try.prog 8 #[.slice a la ca] w fun e w' => e = .returned (.bool true) ∧ Below w.heap.size w w' := by
  have hcap := H.hcap
  have hmax := H.hmax
  unfold maxLen at hmax
  by_cases hb : 3000000 < la
  · have hbi : (3000000 : Int) < (la : Int) := by omega
    clear H
    go_enter Try.func8, Try.ntmps8
    go_wp2
    go_ret
    exact ⟨rfl, Below.refl _ _⟩
  have hbi : decide ((3000000 : Int) < (la : Int)) = false := decide_eq_false (by omega)
  have HL : Hid (bs.length = la) := H.hlen
  go_enter Try.func8, Try.ntmps8
  go_wp2_with fail
  refine (HS _ _ _ _ _ H hnil (by omega)).mono ?_
  rintro e w1 ⟨rfl, hb1⟩
  have dg := H.digs
  have hlt := sumC_lt dg
  have HA : Hid (sumC (bs ++ le4 (sumC bs)) = 558161692) := sumC_all dg
  obtain ⟨S, hS⟩ : ∃ S, S = sumC bs := ⟨_, rfl⟩
  rw [← hS] at HA hlt
  rw [← hS]
  have own0 := BOwn.empty w1
  have hE := balloc w1 (.cells #[] 5)
  have hH := (H.below hb1).below hE
  clear H hS
  go_wp2_with (at_builtin; refine wpList_appBW _ rfl _ _ 22 rfl Try.underlying22 w1.heap.size _ _ rfl own0 a la ca bs rfl hH hnil ?c1 w1 ?c2 hE ?_)
  case c1 => simp; omega
  case c2 => exact hE.size
  rintro v2 w2 own2 b12 -
  clear own0 hE hH
  have hlit := Byts.lit4 w2 ((S : Int) % 256) ((S : Int) / 256 % 256) ((S : Int) / 65536 % 256) ((S : Int) / 16777216) (by omega) (by omega) (by omega) (by omega)
  have HB4 : Hid ([(S : Int) % 256, (S : Int) / 256 % 256, (S : Int) / 65536 % 256, (S : Int) / 16777216] = le4 S) := by
    show _ = _
    unfold le4
    rw [show (S : Int) / 16777216 = ((S / 16777216 % 256 : Nat) : Int) by omega, show (S : Int) / 65536 % 256 = ((S / 65536 % 256 : Nat) : Int) by omega, show (S : Int) / 256 % 256 = ((S / 256 % 256 : Nat) : Int) by omega, show (S : Int) % 256 = ((S % 256 : Nat) : Int) by omega]
  have hb2 := b12.alloc b12.size (.cells #[.int .u8 ((S : Int) % 256), .int .u8 ((S : Int) / 256 % 256), .int .u8 ((S : Int) / 65536 % 256), .int .u8 ((S : Int) / 16777216)] 5)
  replace own2 := own2.alloc (.cells #[.int .u8 ((S : Int) % 256), .int .u8 ((S : Int) / 256 % 256), .int .u8 ((S : Int) / 65536 % 256), .int .u8 ((S : Int) / 16777216)] 5)
  clear b12
  go_wp2_with (at_builtin; refine wpList_appBW _ rfl _ _ 22 rfl Try.underlying22 w1.heap.size _ _ rfl own2 (some ⟨w2.heap.size, 0, none⟩) 4 4 _ rfl hlit (fun e => by cases e) ?c1 w1 ?c2 hb2 ?_)
  case c1 => have := HL.out; simp; omega
  case c2 => exact hb2.size
  rintro v3 w3 own3 b13 -
  replace own3 : BOwn w3 w1.heap.size v3 (bs ++ le4 S) := by rw [← HB4.out]; simpa using own3
  have dg3 : Digs 256 (bs ++ le4 S) := fun z hz => by
    rcases List.mem_append.1 hz with e | e
    · exact dg z e
    · simp [le4] at e
      omega
  obtain ⟨ra, rn, rc, rfl, hZ, -, nnZ⟩ := own3.fresh dg3
  have hrl := hZ.hlen
  have hrn : rn ≤ 140737488355300 := by have := HL.out; simp [le4] at hrl; omega
  have hBB := hb1.trans (b13.mono hb1.size)
  have HS3 := (show Hid _ from HS _ _ _ _ _ hZ (nil9 nnZ) hrn)
  rw [HA.out] at HS3
  clear own2 hlit hb2 own3 b13 hZ nnZ dg3 hrl hb1
  go_wp2_with fail
  refine Calls.mono HS3.out ?_
  rintro e w4 ⟨rfl, hb4⟩
  have hB4 := bthen hBB hb4
  clear HS3 hb4 hBB
  go_wp2
  go_ret
  exact ⟨by simp, hB4⟩


/-- A bit turned makes another byte. -/
theorem turn_ne {x k : Nat} (hx : x < 256) (hk : k < 8) : x ^^^ 2 ^ k ≠ x ∧ x ^^^ 2 ^ k < 256 := by
  have h2 : 2 ^ k < 2 ^ 8 := Nat.pow_lt_pow_right (by omega) hk
  refine ⟨fun e => ?_, Nat.xor_lt_two_pow (n := 8) hx h2⟩
  have h3 : x ^^^ (x ^^^ 2 ^ k) = x ^^^ x := by rw [e]
  rw [← Nat.xor_assoc, Nat.xor_self, Nat.zero_xor] at h3
  have := Nat.pow_pos (n := k) (show 0 < 2 by omega)
  omega
theorem bdraw10 {B : Nat} {a w : World} (h : Below B a w) : Below B a w.drew := ⟨h.os, h.tape, h.output, h.size, h.block⟩
theorem bits_xor8 (a b : Nat) (ha : a < 256) (hb : b < 256) : bits .xor .u8 (a : Int) (b : Int) = ((a ^^^ b : Nat) : Int) := by
  have h : a ^^^ b < 256 := Nat.xor_lt_two_pow (n := 8) ha hb
  show IntKind.u8.wrap (((BitVec.ofInt 8 (a : Int) ^^^ BitVec.ofInt 8 (b : Int)).toNat : Nat) : Int) = _
  have e1 : (BitVec.ofInt 8 (a : Int)).toNat = a := by
    rw [BitVec.toNat_ofInt]
    omega
  have e2 : (BitVec.ofInt 8 (b : Int)).toNat = b := by
    rw [BitVec.toNat_ofInt]
    omega
  rw [BitVec.toNat_xor, e1, e2]
  simp only [IntKind.wrap, IntKind.signed, IntKind.bits]
  simp
  omega
theorem BBlk.bytsC10 {w : World} {g n c : Nat} {L : List Int} (h : BBlk w g L) (hd : Digs 256 L) (hl : L.length = n) (hn : n ≤ c) (hc : c ≤ maxLen) : Byts w (some ⟨g, 0, none⟩) n c L := by
  subst hl
  refine ⟨rfl, hn, hc, fun _ => ⟨g, 0, rfl, fun i hi => ?_⟩, hd⟩
  rw [Nat.zero_add]; exact h.cell hi

set_option maxRecDepth 100000 in
set_option maxHeartbeats 6000000 in
theorem turned10_walk (HE : EncOk10) (HD : DecOk10) (d : Bool) (s a : Int) (b : Option Addr) (lb cb : Nat) (body : List Int) (t : Int) (w : World) (H : Byts w b lb cb body) (hnil : b = none → cb = 0) (hs : -9223372036854775808 ≤ s ∧ s < 9223372036854775808) (ha : -9223372036854775808 ≤ a ∧ a < 9223372036854775808) : Calls Try.prog 7 #[.agg #[.bool d, .int .i64 s, .int .i64 a, .slice b lb cb], .int .i64 t] w fun e w' => e = .returned (.bool true) ∧ Below w.heap.size w w' := by
  have hcap := H.hcap
  have hmax := H.hmax
  unfold maxLen at hmax
  have HL : Hid (body.length = lb) := H.hlen
  obtain ⟨V, hVe⟩ : ∃ V, V = w.alloc (.cells #[.bool d, .int .i64 s, .int .i64 a, .slice b lb cb] 27) := ⟨_, rfl⟩
  have hV := balloc w (.cells #[.bool d, .int .i64 s, .int .i64 a, .slice b lb cb] 27)
  have hC := CellF.new w d s a b lb cb
  rw [← hVe] at hV hC
  have HVe : Hid (V = w.alloc (.cells #[.bool d, .int .i64 s, .int .i64 a, .slice b lb cb] 27)) := hVe
  replace H := H.below hV
  clear hVe
  go_enter Try.func7, Try.ntmps7
  go_wp2_with fail
  rw [← HVe.out]
  obtain ⟨G, hG⟩ : ∃ G, G = w.heap.size := ⟨_, rfl⟩
  rw [← hG] at hC
  rw [← hG]
  clear HVe hG
  refine (r10right_any d s a b lb cb _ (by omega)).mono ?_
  rintro e w1 ⟨rfl, hb1⟩
  have hB1 := bthen hV hb1
  replace H := H.below hb1
  obtain ⟨c0, c1, c2, c3, -, -, -, -⟩ := hC.below hb1
  clear hV hb1 hC
  cases hr : rightFr d s a lb with
  | false =>
    clear H c0 c1 c2
    go_wp2
    go_ret
    exact ⟨rfl, hB1⟩
  | true =>
  by_cases ht : t < 0
  · have htd : decide (t < 0) = true := decide_eq_true ht
    clear H c0 c1 c2
    go_wp2
    go_ret
    exact ⟨rfl, hB1⟩
  have htd : decide (t < 0) = false := decide_eq_false ht
  by_cases hl : 10000 < lb
  · have hld : decide ((10000 : Int) < (lb : Int)) = true := decide_eq_true (by omega)
    clear H c0 c1 c2
    go_wp2
    go_ret
    exact ⟨rfl, hB1⟩
  have hld : decide ((10000 : Int) < (lb : Int)) = false := decide_eq_false (by omega)
  have hr' : rightFr d s a body.length = true := by rw [HL.out]; exact hr
  go_wp2_with fail
  refine (HE d s a b lb cb body _ H hnil hs ha).mono ?_
  rintro e w2 ⟨xa, xl, xc, xs, xe, rfl, hX, hx, ⟨xn, -⟩, hb2⟩
  obtain ⟨hEn, rfl⟩ : IsEnc d s a body xs ∧ xe = 0 := by
    rcases hx with ⟨_, h2, h3⟩ | ⟨h1, _, _⟩
    · exact ⟨h2, h3⟩
    · rw [hr'] at h1; cases h1
  have hB2 := bthen hB1 hb2
  obtain ⟨l8, l35⟩ := enc_len hEn hr'
  have dgb := H.digs
  have dgx := hX.digs
  have hLx := hX.hlen
  have hll := HL.out
  have hxl : 8 ≤ xl ∧ xl ≤ 10035 := by omega
  have hx0 : ((xl : Int) == 0) = false := by simp; omega
  have HEn : Hid (IsEnc d s a body xs ∧ Digs 256 body) := ⟨hEn, dgb⟩
  have HLx : Hid (xs.length = xl) := hLx
  have own0 := BOwn.empty w2
  have hE0 := balloc w2 (.cells #[] 5)
  have hX0 := hX.below hE0
  clear hb2 hB1 c0 c1 c2 c3 H hx hr hr' l8 l35 hLx hll hEn dgb hX
  go_wp2_with (at_builtin; refine wpList_appBW _ rfl _ _ 22 rfl Try.underlying22 w2.heap.size _ _ rfl own0 xa xl xc xs rfl hX0 xn ?c1 w2 ?c2 hE0 ?_)
  case c1 => simp; omega
  case c2 => exact hE0.size
  rintro v3 w3 own3 b23 -
  replace own3 : BOwn w3 w2.heap.size v3 xs := by simpa using own3
  obtain ⟨ra, rn, cap, rfl, hZ, hblk, -⟩ := own3.fresh dgx
  obtain rfl : xl = rn := HLx.out.symm.trans hZ.hlen
  obtain ⟨g, rfl, hgB, hBlk⟩ := hblk (by omega)
  have hc1 := hZ.hcap
  have hc2 := hZ.hmax
  have hB3 := hB2.trans (b23.mono hB2.size)
  have hgw : w.heap.size ≤ g := Nat.le_trans hB2.size hgB
  clear own0 hE0 hX0 b23 own3 hgB hblk hZ
  -- the place
  obtain ⟨A, rfl⟩ : ∃ A : Nat, t = (A : Int) := ⟨t.toNat, by omega⟩
  obtain ⟨P, hP⟩ : ∃ P, P = A % (8 * xl) := ⟨_, rfl⟩
  have hPl : P < 8 * xl := by rw [hP]; exact Nat.mod_lt _ (by omega)
  have hPi : (A : Int) % (8 * (xl : Int)) = (P : Int) := by rw [hP, Int.natCast_emod, Int.natCast_mul]; rfl
  obtain ⟨I, hI⟩ : ∃ I, I = P / 8 := ⟨_, rfl⟩
  obtain ⟨K, hK⟩ : ∃ K, K = P % 8 := ⟨_, rfl⟩
  have hIi : (P : Int) / 8 = (I : Int) := by omega
  have hKi : (P : Int) % 8 = (K : Int) := by omega
  have hIl : I < xl := by omega
  have hK8 : K < 8 := by omega
  have hIli : (I : Int) < (xl : Int) := by omega
  have hI0 : (0 : Int) ≤ (I : Int) := by omega
  have hK0 : (0 : Int) ≤ (K : Int) := by omega
  have hT1 : (P : Int).tdiv 8 = (I : Int) := by rw [Int.tdiv_eq_ediv_of_nonneg (by omega)]; exact hIi
  have hT2 : (P : Int).tmod 8 = (K : Int) := by rw [Int.tmod_eq_emod_of_nonneg (by omega)]; exact hKi
  have hW1 : IntKind.i64.wrap (I : Int) = (I : Int) := by simp [IntKind.wrap, IntKind.signed, IntKind.bits]; omega
  have hW2 : IntKind.i64.wrap (K : Int) = (K : Int) := by simp [IntKind.wrap, IntKind.signed, IntKind.bits]; omega
  have cI := hBlk.cell (j := I) (by rw [HLx.out]; exact hIl)
  have fI := hBlk.frozen I
  have hmax3 := hc2
  unfold maxLen at hmax3
  clear hP hI hK
  have hw0 := dgx (xs.getD I 0) (by
    have : I < xs.length := by rw [HLx.out]; exact hIl
    simp [List.getD, this])
  obtain ⟨y, hy⟩ : ∃ y : Nat, xs.getD I 0 = (y : Int) := ⟨(xs.getD I 0).toNat, by omega⟩
  rw [hy] at cI
  have hy8 : y < 256 := by omega
  have HT := turn_ne hy8 hK8
  have HTy : Hid ((y ^^^ 2 ^ K ≠ y ∧ y ^^^ 2 ^ K < 256) ∧ xs.getD I 0 = (y : Int)) := ⟨HT, hy⟩
  clear hw0 hy HT
  go_wp2_with fail
  go_region
  have hbx : bits .xor .u8 (y : Int) (2 ^ K % 256) = ((y ^^^ 2 ^ K : Nat) : Int) := by
    have h2 : 2 ^ K < 2 ^ 8 := Nat.pow_lt_pow_right (by omega) hK8
    have e : ((2 : Int) ^ K % 256) = ((2 ^ K : Nat) : Int) := by
      have : ((2 : Int) ^ K) = ((2 ^ K : Nat) : Int) := by simp
      rw [this]
      exact Int.emod_eq_of_lt (Int.natCast_nonneg _) (Int.ofNat_lt.2 (show 2 ^ K < 256 from h2))
    rw [e]
    exact bits_xor8 y (2 ^ K) hy8 h2
  rw [hbx]
  obtain ⟨z, hz⟩ : ∃ z, z = y ^^^ 2 ^ K := ⟨_, rfl⟩
  rw [← hz]
  have HTz : Hid (((z : Int) ≠ (y : Int) ∧ z < 256) ∧ xs.getD I 0 = (y : Int)) := by
    obtain ⟨⟨k1, k2⟩, k3⟩ := HTy.out
    rw [← hz] at k1 k2
    exact ⟨⟨by omega, k2⟩, k3⟩
  have hBz : BBlk (w3.setCell ⟨g, I, none⟩ (.int .u8 (z : Int))).drew g (xs.set I (z : Int)) := hBlk.set I (z : Int)
  have hBW : Below w.heap.size w (w3.setCell ⟨g, I, none⟩ (.int .u8 (z : Int))).drew := bdraw10 (hB3.setCell (p := ⟨g, I, none⟩) hgw (.int .u8 (z : Int)))
  have dgz : Digs 256 (xs.set I (z : Int)) := fun v hv => by
    rcases List.mem_or_eq_of_mem_set hv with k | rfl
    · exact dgx v k
    · have := HTz.out.1.2
      omega
  have hByz := hBz.bytsC10 dgz (n := xl) (by rw [List.length_set]; exact HLx.out) hc1 hc2
  have hIx : I < xs.length := by rw [HLx.out]; exact hIl
  have HIx : Hid (I < xs.length) := hIx
  clear hbx hz HTy hBz hBlk hB3 cI fI hT1 hT2 hW1 hW2 hIi hKi hPi hPl hy8
  go_wp2_with fail
  refine (HD _ _ _ _ _ hByz (fun e => by cases e) (by omega)).mono ?_
  rintro e w4 ⟨yd, ys, ya, yp, yl, yc, yb, ye, rfl, hY, hy, -, hb4⟩
  obtain rfl : ye = 14 := by
    rcases hy with ⟨k1, k2, _⟩ | ⟨_, _, k⟩
    · refine absurd ?_ HTz.out.1.1
      have e1 : xs.set I (z : Int) = xs.take I ++ (z : Int) :: xs.drop (I + 1) := List.set_eq_take_append_cons_drop .. |>.trans (if_pos HIx.out)
      have e2 : xs = xs.take I ++ (y : Int) :: xs.drop (I + 1) := by
        rw [← HTz.out.2]
        exact drop_cons9 HIx.out
      have k3 := HEn.out.1
      rw [e2] at k3
      rw [e1] at k2
      exact enc_turned k2 k3 hY.digs HEn.out.2
    · exact k
  have hB4 := bthen (bthen hBW hb4) (balloc w4 (.cells #[.bool yd, .int .i64 ys, .int .i64 ya, .slice yp yl yc] 27))
  clear hBW hb4 hy hY hByz dgz
  go_wp2
  go_ret
  exact ⟨by simp, hB4⟩
end Go.Proofs.Ytpoipobmkfphcaa
