/-
  Contracts of the document's Right and Encode (frame). Written by mk/ref10b.py.
-/
import Derived.Test.YtpoipobmkfphcaaRef10A
import Derived.Test.YtpoipobmkfphcaaF10Enc
import Derived.Test.YtpoipobmkfphcaaP9LawsO
import Derived.Test.YtpoipobmkfphcaaC9Back
import Derived.Test.YtpoipobmkfphcaaModA
import Derived.Laws.NewBlocks
namespace Go.Proofs.Ytpoipobmkfphcaa
open Go.RowKit

set_option maxRecDepth 20000 in
set_option maxHeartbeats 1600000 in
theorem r10right_any (d : Bool) (s a : Int) (b : Option Addr) (lb cb : Nat) (w : World) (hlb : lb < 9223372036854775808) :
    Calls Try.prog 16 #[.agg #[.bool d, .int .i64 s, .int .i64 a, .slice b lb cb]] w fun e w' => e = .returned (.bool (rightFr d s a lb)) ∧ Below w.heap.size w w' := by
  have hV := (Below.refl w.heap.size w).alloc (Nat.le_refl _) (.cells #[.bool d, .int .i64 s, .int .i64 a, .slice b lb cb] 27)
  have NO : ∀ {P : Prop}, (0 ≤ s ∧ s ≤ 1073741824 ∧ 0 ≤ a ∧ a ≤ 1073741824 ∧ lb ≤ 1048576 ∧ (d = true ∨ s = 0 ∧ lb = 0) → False) → Hid (rightFr d s a lb = false) := fun h => Bool.eq_false_iff.2 (fun e => h ((rightFr_iff d s a lb).1 e))
  have YES : (0 ≤ s ∧ s ≤ 1073741824 ∧ 0 ≤ a ∧ a ≤ 1073741824 ∧ lb ≤ 1048576 ∧ (d = true ∨ s = 0 ∧ lb = 0)) → Hid (rightFr d s a lb = true) := fun h => (rightFr_iff d s a lb).2 h
  by_cases h1 : s < 0
  · have h1d : decide (s < 0) = true := decide_eq_true h1
    have HE := NO (P := True) (fun h => by omega)
    clear NO YES
    go_enter Try.func16, Try.ntmps16
    go_wp2
    go_ret
    exact ⟨ret_bool HE.out.symm, hV⟩
  have h1d : decide (s < 0) = false := decide_eq_false h1
  by_cases h2 : 1073741824 < s
  · have h2d : decide ((1073741824 : Int) < s) = true := decide_eq_true h2
    have HE := NO (P := True) (fun h => by omega)
    clear NO YES
    go_enter Try.func16, Try.ntmps16
    go_wp2
    go_ret
    exact ⟨ret_bool HE.out.symm, hV⟩
  have h2d : decide ((1073741824 : Int) < s) = false := decide_eq_false h2
  by_cases h3 : a < 0
  · have h3d : decide (a < 0) = true := decide_eq_true h3
    have HE := NO (P := True) (fun h => by omega)
    clear NO YES
    go_enter Try.func16, Try.ntmps16
    go_wp2
    go_ret
    exact ⟨ret_bool HE.out.symm, hV⟩
  have h3d : decide (a < 0) = false := decide_eq_false h3
  by_cases h4 : 1073741824 < a
  · have h4d : decide ((1073741824 : Int) < a) = true := decide_eq_true h4
    have HE := NO (P := True) (fun h => by omega)
    clear NO YES
    go_enter Try.func16, Try.ntmps16
    go_wp2
    go_ret
    exact ⟨ret_bool HE.out.symm, hV⟩
  have h4d : decide ((1073741824 : Int) < a) = false := decide_eq_false h4
  by_cases h5 : 1048576 < lb
  · have h5d : decide ((1048576 : Int) < (lb : Int)) = true := decide_eq_true (by omega)
    have HE := NO (P := True) (fun h => by omega)
    clear NO YES
    go_enter Try.func16, Try.ntmps16
    go_wp2
    go_ret
    exact ⟨ret_bool HE.out.symm, hV⟩
  have h5d : decide ((1048576 : Int) < (lb : Int)) = false := decide_eq_false (by omega)
  cases d with
  | true =>
    have HE := YES ⟨by omega, by omega, by omega, by omega, by omega, .inl rfl⟩
    clear NO YES
    go_enter Try.func16, Try.ntmps16
    go_wp2
    go_ret
    exact ⟨ret_bool HE.out.symm, hV⟩
  | false =>
    by_cases h6 : s = 0
    · subst h6
      by_cases h7 : lb = 0
      · subst h7
        have HE := YES ⟨by omega, by omega, by omega, by omega, by omega, .inr ⟨rfl, rfl⟩⟩
        clear NO YES
        go_enter Try.func16, Try.ntmps16
        go_wp2
        go_ret
        exact ⟨ret_bool HE.out.symm, hV⟩
      · have h7d : ((lb : Int) == 0) = false := by simp; omega
        have HE := NO (P := True) (fun h => by simp at h; omega)
        clear NO YES
        go_enter Try.func16, Try.ntmps16
        go_wp2
        go_ret
        exact ⟨ret_bool HE.out.symm, hV⟩
    · have h6d : (s == 0) = false := by simp; omega
      have HE := NO (P := True) (fun h => by simp at h; omega)
      clear NO YES
      go_enter Try.func16, Try.ntmps16
      go_wp2
      go_ret
      exact ⟨ret_bool HE.out.symm, hV⟩

/-- What a call that tells a frame's bytes makes. -/
def EncT (d : Bool) (s a : Int) (body : List Int) (w : World) (e : Ending) (w' : World) : Prop := ∃ a' l' c' ys err, e = .returned (.tuple #[.slice a' l' c', .int .i64 err]) ∧ Byts w' a' l' c' ys ∧ ResEnc d s a body ys err ∧ ((a' = none → c' = 0) ∧ ∀ ad, a' = some ad → 0 < l' → w.heap.size ≤ ad.block ∧ IsB w' ad.block) ∧ Below w.heap.size w w'
theorem BOwn.lit1 (w : World) (x : Int) : BOwn (w.alloc (.cells #[.int .u8 x] 5)) w.heap.size (.slice (some ⟨w.heap.size, 0, none⟩) 1 1) [x] :=
  World.ownsRow_lit w #[.int .u8 x] 1 (Nat.le_refl _) (by decide) rfl
theorem Byts.lit4 (w : World) (x y z u : Int) (hx : 0 ≤ x ∧ x < 256) (hy : 0 ≤ y ∧ y < 256) (hz : 0 ≤ z ∧ z < 256) (hu : 0 ≤ u ∧ u < 256) : Byts (w.alloc (.cells #[.int .u8 x, .int .u8 y, .int .u8 z, .int .u8 u] 5)) (some ⟨w.heap.size, 0, none⟩) 4 4 [x, y, z, u] := by
  refine ⟨rfl, Nat.le_refl _, by unfold maxLen; omega, fun _ => ⟨w.heap.size, 0, rfl, fun i hi => ?_⟩, fun v hv => ?_⟩
  · have : i = 0 ∨ i = 1 ∨ i = 2 ∨ i = 3 := by omega
    rcases this with rfl | rfl | rfl | rfl <;> simp
  · simp at hv
    rcases hv with rfl | rfl | rfl | rfl <;> assumption

set_option maxRecDepth 20000 in
set_option maxHeartbeats 3200000 in
/-- From the first byte on. -/
theorem r10enc_any (d : Bool) (s a : Int) (b : Option Addr) (lb cb : Nat) (body : List Int) (w : World) (h : Byts w b lb cb body) (hnil : b = none → cb = 0) :
    Calls Try.prog 12 #[.agg #[.bool d, .int .i64 s, .int .i64 a, .slice b lb cb]] w fun e w' => EncT d s a body w e w' := by
  have hl := h.hlen
  have hcap := h.hcap
  have hmax := h.hmax
  unfold maxLen at hmax
  have hV := balloc w (.cells #[.bool d, .int .i64 s, .int .i64 a, .slice b lb cb] 27)
  have c0 : (w.alloc (.cells #[.bool d, .int .i64 s, .int .i64 a, .slice b lb cb] 27)).cell? ⟨w.heap.size, 0, none⟩ = some (.bool d) := by simp
  have c1 : (w.alloc (.cells #[.bool d, .int .i64 s, .int .i64 a, .slice b lb cb] 27)).cell? ⟨w.heap.size, 1, none⟩ = some (.int .i64 s) := by simp
  have c2 : (w.alloc (.cells #[.bool d, .int .i64 s, .int .i64 a, .slice b lb cb] 27)).cell? ⟨w.heap.size, 2, none⟩ = some (.int .i64 a) := by simp
  have c3 : (w.alloc (.cells #[.bool d, .int .i64 s, .int .i64 a, .slice b lb cb] 27)).cell? ⟨w.heap.size, 3, none⟩ = some (.slice b lb cb) := by simp
  replace h := h.below hV
  have HL : Hid (body.length = lb) := hl
  clear hl
  go_enter Try.func12, Try.ntmps12
  go_wp2_with fail
  refine (r10right_any d s a b lb cb _ (by omega)).mono ?_
  rintro e w1 ⟨rfl, hb1⟩
  have hB1 := bthen hV hb1
  replace h := h.below hb1
  replace c0 := bkeep hb1 c0 rfl
  replace c1 := bkeep hb1 c1 rfl
  replace c2 := bkeep hb1 c2 rfl
  replace c3 := bkeep hb1 c3 rfl
  obtain ⟨G, hG⟩ : ∃ G, G = w.heap.size := ⟨_, rfl⟩
  rw [← hG] at c0 c1 c2 c3
  rw [← hG]
  clear hV hb1 hG
  cases hr : rightFr d s a lb with
  | false =>
    have HF : Hid (ResEnc d s a body [] 1) := .inr ⟨by rw [HL.out]; exact hr, rfl, rfl⟩
    clear h c0 c1 c2 c3
    go_wp2
    go_ret2
    exact ⟨none, 0, 0, [], 1, rfl, Byts.nil _, HF.out, ⟨fun _ => rfl, fun _ e => (by cases e)⟩, hB1⟩
  | true =>
    obtain ⟨x1, x2, x3, x4, x5, -⟩ := (rightFr_iff d s a lb).1 hr
    obtain ⟨S, rfl⟩ : ∃ S : Nat, s = (S : Int) := ⟨s.toNat, by omega⟩
    obtain ⟨A, rfl⟩ : ∃ A : Nat, a = (A : Int) := ⟨a.toNat, by omega⟩
    have HR : Hid (rightFr d S A body.length = true) := by show _ = _; rw [HL.out]; exact hr
    clear hr
    cases d with
    | false =>
      have own0 := BOwn.lit1 w1 0
      have hb2 := balloc w1 (.cells #[.int .u8 0] 5)
      have z0 := bkeep (balloc w1 (.cells #[.int .u8 0] 5)) c0 rfl
      have z1 := bkeep hb2 c1 rfl
      go_wp2_with fail
      refine (r9number_any S _ (by omega)).mono ?_
      rintro e w3 ⟨v3, cs, rfl, o3, k3, hb3⟩
      obtain ⟨sa, sn, sc, rfl, hs3, -, nn3⟩ := o3.fresh k3.digs
      have l3 := code_10 k3 (by omega)
      have e3 := hs3.hlen
      replace own0 := own9 own0 hb3
      have b13 := bthen hb2 hb3
      have K3 : Hid (IsCode cs S) := k3
      clear o3 hb2 hb3 k3 z0 z1 c0 c1
      have HL3 : Hid (cs.length = sn) := e3
      clear e3
      go_wp2_with (at_builtin; refine wpList_appBW _ rfl _ _ 22 rfl Try.underlying22 w1.heap.size _ _ rfl own0 sa sn sc cs rfl hs3 (nil9 nn3) ?c1 w1 ?c2 b13 ?_)
      case c1 => have := HL3.out; simp; omega
      case c2 => exact b13.size
      rintro v4 w4 own4 b14 -
      clear own0 hs3 b13 nn3
      have y2 := bkeep b14 c2 rfl
      go_wp2_with fail
      refine (r9number_any A _ (by omega)).mono ?_
      rintro e w5 ⟨v5, ca, rfl, o5, k5, hb5⟩
      obtain ⟨ta, tn, tc, rfl, hs5, -, nn5⟩ := o5.fresh k5.digs
      have l5 := code_10 k5 (by omega)
      have HL5 : Hid (ca.length = tn) := hs5.hlen
      replace own4 := own9 own4 hb5
      have b15 := b14.trans (hb5.mono b14.size)
      have K5 : Hid (IsCode ca A) := k5
      clear o5 b14 hb5 k5 y2 c2
      go_wp2_with (at_builtin; refine wpList_appBW _ rfl _ _ 22 rfl Try.underlying22 w1.heap.size _ _ rfl own4 ta tn tc ca rfl hs5 (nil9 nn5) ?c1 w1 ?c2 b15 ?_)
      case c1 => have := HL5.out; have := HL3.out; simp; omega
      case c2 => exact b15.size
      rintro v6 w6 own6 b16 -
      clear own4 hs5 b15 nn5
      replace c3 := bkeep b16 c3 rfl
      replace h := h.below b16
      go_wp2_with fail
      refine (r9bytes_any b lb cb body _ h hnil (by omega)).mono ?_
      rintro e w7 ⟨v7, cc, rfl, o7, k7, hb7⟩
      have dgb := h.digs
      have l7 := code_10 k7 (by rw [HL.out]; omega)
      have HLc : Hid (cc.length ≤ 10) := l7
      have HL3' := HL3.out
      have HL5' := HL5.out
      have HK : Hid (IsHead false S A body (0 :: (cs ++ (ca ++ (cc ++ body))))) := ⟨cs, ca, cc, by simpa using K3.out, by simpa using K5.out, k7, rfl⟩
      have dgm := HK.out.digs dgb
      obtain ⟨ua, un, uc, rfl, hs7, -, nn7⟩ := o7.fresh (fun z hz => dgm z (by simp only [List.mem_cons, List.mem_append] at hz ⊢; exact .inr (.inr (.inr hz))))
      replace own6 := own9 own6 hb7
      have b17 := b16.trans (hb7.mono b16.size)
      have HL7 : Hid ((cc ++ body).length = un) := hs7.hlen
      clear o7 b16 hb7 k7 l7 h c3 HL3' HL5' dgb
      go_wp2_with (at_builtin; refine wpList_appBW _ rfl _ _ 22 rfl Try.underlying22 w1.heap.size _ _ rfl own6 ua un uc (cc ++ body) rfl hs7 (nil9 nn7) ?c1 w1 ?c2 b17 ?_)
      case c1 => have := HL3.out; have := HL5.out; have := HL7.out; have := HLc.out; have := HL.out; simp at *; omega
      case c2 => exact b17.size
      rintro v8 w8 own8 b18 -
      clear own6 hs7 b17 nn7
      obtain ⟨M, hM⟩ : ∃ M, M = 0 :: (cs ++ (ca ++ (cc ++ body))) := ⟨_, rfl⟩
      replace own8 : BOwn w8 w1.heap.size v8 M := by rw [hM]; simpa using own8
      rw [← hM] at HK dgm
      obtain ⟨oa, on, oc, rfl, hO, -, nnO⟩ := own8.fresh dgm
      have HLO : Hid (M.length = on) := hO.hlen
      have hlen := (HK.out.len HR.out).1
      have HLM : Hid (M.length ≤ 1048607) := by show _ ≤ _; have := HL.out; omega
      clear hM hlen
      go_wp2_with fail
      refine (r10sum_any oa on oc M _ hO).mono ?_
      rintro e w9 ⟨rfl, rfl⟩
      have hs := sumC_lt dgm
      have HE : Hid (IsEnc false S A body (M ++ be4 (sumC M))) := ⟨M, HK.out, rfl⟩
      obtain ⟨T, hT⟩ : ∃ T, T = sumC M := ⟨_, rfl⟩
      rw [← hT] at hs HE
      rw [← hT]
      have hlit := Byts.lit4 w9 ((T : Int) / 16777216) ((T : Int) / 65536 % 256) ((T : Int) / 256 % 256) ((T : Int) % 256) (by omega) (by omega) (by omega) (by omega)
      have HB4 : Hid ([(T : Int) / 16777216, (T : Int) / 65536 % 256, (T : Int) / 256 % 256, (T : Int) % 256] = be4 T) := by
        show _ = _
        unfold be4
        rw [show (T : Int) / 16777216 = ((T / 16777216 % 256 : Nat) : Int) by omega, show (T : Int) / 65536 % 256 = ((T / 65536 % 256 : Nat) : Int) by omega, show (T : Int) / 256 % 256 = ((T / 256 % 256 : Nat) : Int) by omega, show (T : Int) % 256 = ((T % 256 : Nat) : Int) by omega]
      have hb9 := b18.alloc b18.size (.cells #[.int .u8 ((T : Int) / 16777216), .int .u8 ((T : Int) / 65536 % 256), .int .u8 ((T : Int) / 256 % 256), .int .u8 ((T : Int) % 256)] 5)
      replace own8 := own8.alloc (.cells #[.int .u8 ((T : Int) / 16777216), .int .u8 ((T : Int) / 65536 % 256), .int .u8 ((T : Int) / 256 % 256), .int .u8 ((T : Int) % 256)] 5)
      clear hT hO nnO b18
      go_wp2_with (at_builtin; refine wpList_appBW _ rfl _ _ 22 rfl Try.underlying22 w1.heap.size _ _ rfl own8 (some ⟨w9.heap.size, 0, none⟩) 4 4 _ rfl hlit (fun e => by cases e) ?c1 w1 ?c2 hb9 ?_)
      case c1 => have := HLM.out; omega
      case c2 => exact hb9.size
      rintro v10 w10 own10 b110 -
      rw [HB4.out] at own10
      have dg10 := HE.out.digs (body := body) (fun z hz => dgm z (by
        obtain ⟨cs', ca', cb', -, -, -, e⟩ := HK.out
        rw [e]
        simp [hz]))
      obtain ⟨ra, rn, rc, rfl, hZ, qbZ, nnZ⟩ := own10.fresh dg10
      have hBB := hB1.trans (b110.mono hB1.size)
      have HZ : Hid (Byts w10 ra rn rc (M ++ be4 T) ∧ ((ra = none → rc = 0) ∧ ∀ ad, ra = some ad → 0 < rn → w.heap.size ≤ ad.block ∧ IsB w10 ad.block)) := ⟨hZ, nil9 nnZ, fun ad e h0 => by
        obtain ⟨q, e2, hq, cur, hqc, -⟩ := qbZ h0
        rw [e] at e2
        cases e2
        exact ⟨Nat.le_trans hB1.size hq, cur, hqc⟩⟩
      clear own8 hlit hb9 own10 b110 hZ nnZ qbZ dg10 dgm
      go_wp2
      go_ret2
      exact ⟨ra, rn, rc, _, 0, rfl, HZ.out.1, .inl ⟨HR.out, HE.out, rfl⟩, HZ.out.2, hBB⟩
    | true =>
      have own0 := BOwn.lit1 w1 1
      have hb2 := balloc w1 (.cells #[.int .u8 1] 5)
      have z0 := bkeep (balloc w1 (.cells #[.int .u8 0] 5)) c0 rfl
      have z1 := bkeep hb2 c1 rfl
      go_wp2_with fail
      refine (r9number_any S _ (by omega)).mono ?_
      rintro e w3 ⟨v3, cs, rfl, o3, k3, hb3⟩
      obtain ⟨sa, sn, sc, rfl, hs3, -, nn3⟩ := o3.fresh k3.digs
      have l3 := code_10 k3 (by omega)
      have e3 := hs3.hlen
      replace own0 := own9 own0 hb3
      have b13 := bthen hb2 hb3
      have K3 : Hid (IsCode cs S) := k3
      clear o3 hb2 hb3 k3 z0 z1 c0 c1
      have HL3 : Hid (cs.length = sn) := e3
      clear e3
      go_wp2_with (at_builtin; refine wpList_appBW _ rfl _ _ 22 rfl Try.underlying22 w1.heap.size _ _ rfl own0 sa sn sc cs rfl hs3 (nil9 nn3) ?c1 w1 ?c2 b13 ?_)
      case c1 => have := HL3.out; simp; omega
      case c2 => exact b13.size
      rintro v4 w4 own4 b14 -
      clear own0 hs3 b13 nn3
      have y2 := bkeep b14 c2 rfl
      go_wp2_with fail
      refine (r9number_any A _ (by omega)).mono ?_
      rintro e w5 ⟨v5, ca, rfl, o5, k5, hb5⟩
      obtain ⟨ta, tn, tc, rfl, hs5, -, nn5⟩ := o5.fresh k5.digs
      have l5 := code_10 k5 (by omega)
      have HL5 : Hid (ca.length = tn) := hs5.hlen
      replace own4 := own9 own4 hb5
      have b15 := b14.trans (hb5.mono b14.size)
      have K5 : Hid (IsCode ca A) := k5
      clear o5 b14 hb5 k5 y2 c2
      go_wp2_with (at_builtin; refine wpList_appBW _ rfl _ _ 22 rfl Try.underlying22 w1.heap.size _ _ rfl own4 ta tn tc ca rfl hs5 (nil9 nn5) ?c1 w1 ?c2 b15 ?_)
      case c1 => have := HL5.out; have := HL3.out; simp; omega
      case c2 => exact b15.size
      rintro v6 w6 own6 b16 -
      clear own4 hs5 b15 nn5
      replace c3 := bkeep b16 c3 rfl
      replace h := h.below b16
      go_wp2_with fail
      refine (r9bytes_any b lb cb body _ h hnil (by omega)).mono ?_
      rintro e w7 ⟨v7, cc, rfl, o7, k7, hb7⟩
      have dgb := h.digs
      have l7 := code_10 k7 (by rw [HL.out]; omega)
      have HLc : Hid (cc.length ≤ 10) := l7
      have HL3' := HL3.out
      have HL5' := HL5.out
      have HK : Hid (IsHead true S A body (1 :: (cs ++ (ca ++ (cc ++ body))))) := ⟨cs, ca, cc, by simpa using K3.out, by simpa using K5.out, k7, rfl⟩
      have dgm := HK.out.digs dgb
      obtain ⟨ua, un, uc, rfl, hs7, -, nn7⟩ := o7.fresh (fun z hz => dgm z (by simp only [List.mem_cons, List.mem_append] at hz ⊢; exact .inr (.inr (.inr hz))))
      replace own6 := own9 own6 hb7
      have b17 := b16.trans (hb7.mono b16.size)
      have HL7 : Hid ((cc ++ body).length = un) := hs7.hlen
      clear o7 b16 hb7 k7 l7 h c3 HL3' HL5' dgb
      go_wp2_with (at_builtin; refine wpList_appBW _ rfl _ _ 22 rfl Try.underlying22 w1.heap.size _ _ rfl own6 ua un uc (cc ++ body) rfl hs7 (nil9 nn7) ?c1 w1 ?c2 b17 ?_)
      case c1 => have := HL3.out; have := HL5.out; have := HL7.out; have := HLc.out; have := HL.out; simp at *; omega
      case c2 => exact b17.size
      rintro v8 w8 own8 b18 -
      clear own6 hs7 b17 nn7
      obtain ⟨M, hM⟩ : ∃ M, M = 1 :: (cs ++ (ca ++ (cc ++ body))) := ⟨_, rfl⟩
      replace own8 : BOwn w8 w1.heap.size v8 M := by rw [hM]; simpa using own8
      rw [← hM] at HK dgm
      obtain ⟨oa, on, oc, rfl, hO, -, nnO⟩ := own8.fresh dgm
      have HLO : Hid (M.length = on) := hO.hlen
      have hlen := (HK.out.len HR.out).1
      have HLM : Hid (M.length ≤ 1048607) := by show _ ≤ _; have := HL.out; omega
      clear hM hlen
      go_wp2_with fail
      refine (r10sum_any oa on oc M _ hO).mono ?_
      rintro e w9 ⟨rfl, rfl⟩
      have hs := sumC_lt dgm
      have HE : Hid (IsEnc true S A body (M ++ be4 (sumC M))) := ⟨M, HK.out, rfl⟩
      obtain ⟨T, hT⟩ : ∃ T, T = sumC M := ⟨_, rfl⟩
      rw [← hT] at hs HE
      rw [← hT]
      have hlit := Byts.lit4 w9 ((T : Int) / 16777216) ((T : Int) / 65536 % 256) ((T : Int) / 256 % 256) ((T : Int) % 256) (by omega) (by omega) (by omega) (by omega)
      have HB4 : Hid ([(T : Int) / 16777216, (T : Int) / 65536 % 256, (T : Int) / 256 % 256, (T : Int) % 256] = be4 T) := by
        show _ = _
        unfold be4
        rw [show (T : Int) / 16777216 = ((T / 16777216 % 256 : Nat) : Int) by omega, show (T : Int) / 65536 % 256 = ((T / 65536 % 256 : Nat) : Int) by omega, show (T : Int) / 256 % 256 = ((T / 256 % 256 : Nat) : Int) by omega, show (T : Int) % 256 = ((T % 256 : Nat) : Int) by omega]
      have hb9 := b18.alloc b18.size (.cells #[.int .u8 ((T : Int) / 16777216), .int .u8 ((T : Int) / 65536 % 256), .int .u8 ((T : Int) / 256 % 256), .int .u8 ((T : Int) % 256)] 5)
      replace own8 := own8.alloc (.cells #[.int .u8 ((T : Int) / 16777216), .int .u8 ((T : Int) / 65536 % 256), .int .u8 ((T : Int) / 256 % 256), .int .u8 ((T : Int) % 256)] 5)
      clear hT hO nnO b18
      go_wp2_with (at_builtin; refine wpList_appBW _ rfl _ _ 22 rfl Try.underlying22 w1.heap.size _ _ rfl own8 (some ⟨w9.heap.size, 0, none⟩) 4 4 _ rfl hlit (fun e => by cases e) ?c1 w1 ?c2 hb9 ?_)
      case c1 => have := HLM.out; omega
      case c2 => exact hb9.size
      rintro v10 w10 own10 b110 -
      rw [HB4.out] at own10
      have dg10 := HE.out.digs (body := body) (fun z hz => dgm z (by
        obtain ⟨cs', ca', cb', -, -, -, e⟩ := HK.out
        rw [e]
        simp [hz]))
      obtain ⟨ra, rn, rc, rfl, hZ, qbZ, nnZ⟩ := own10.fresh dg10
      have hBB := hB1.trans (b110.mono hB1.size)
      have HZ : Hid (Byts w10 ra rn rc (M ++ be4 T) ∧ ((ra = none → rc = 0) ∧ ∀ ad, ra = some ad → 0 < rn → w.heap.size ≤ ad.block ∧ IsB w10 ad.block)) := ⟨hZ, nil9 nnZ, fun ad e h0 => by
        obtain ⟨q, e2, hq, cur, hqc, -⟩ := qbZ h0
        rw [e] at e2
        cases e2
        exact ⟨Nat.le_trans hB1.size hq, cur, hqc⟩⟩
      clear own8 hlit hb9 own10 b110 hZ nnZ qbZ dg10 dgm
      go_wp2
      go_ret2
      exact ⟨ra, rn, rc, _, 0, rfl, HZ.out.1, .inl ⟨HR.out, HE.out, rfl⟩, HZ.out.2, hBB⟩
end Go.Proofs.Ytpoipobmkfphcaa
