/-
  Contracts of the document's Sum (frame).
  Contracts of the document's Right and Encode (frame). Written by mk/ref10b.py.
  Contracts of the document's Decode and Same (frame). Written by mk/ref10c.py.
-/
import Derived.Test.YtjokbikelklaiaaF10A
import Derived.Test.YtjokbikelklaiaaC9A
import Derived.Test.YtjokbikelklaiaaC9Back
import Derived.Test.YtjokbikelklaiaaModA
import Derived.Laws.NewBlocks
import Derived.Test.YtjokbikelklaiaaR9B
import Derived.BigQuiet
namespace Go.Proofs.Ytjokbikelklaiaa
open Go.RowKit

theorem bits_step {q : Nat} (hq : q < 4294967296) (ho : q % 2 = 1) : bits .xor .u32 ((q : Int) / 2) 3988292384 = ((stepC q : Nat) : Int) := by
  have h := bits_xor32 (q / 2) 3988292384 (by omega) (by decide)
  rw [show ((q : Int) / 2) = ((q / 2 : Nat) : Int) by omega]
  unfold stepC
  rw [if_pos ho]
  exact h
theorem step_even {q : Nat} (ho : ¬ q % 2 = 1) : (q : Int) / 2 = ((stepC q : Nat) : Int) := by
  unfold stepC
  rw [if_neg ho]
  omega
theorem bits_byte {r : Nat} {b : Int} (hr : r < 4294967296) (hb : 0 ≤ b ∧ b < 256) : bits .xor .u32 (r : Int) b = ((r ^^^ b.toNat : Nat) : Int) := by
  have h := bits_xor32 r b.toNat hr (by omega)
  rw [show ((b.toNat : Nat) : Int) = b by omega] at h
  exact h
theorem bits_all {r : Nat} (hr : r < 4294967296) : bits .xor .u32 (r : Int) 4294967295 = ((r ^^^ 4294967295 : Nat) : Int) := bits_xor32 r 4294967295 hr (by decide)
theorem steps_on {q k : Nat} (hk : k < 8) : stepsC (8 - k) q = stepsC (8 - (k + 1)) (stepC q) := by
  rw [show 8 - k = (8 - (k + 1)) + 1 by omega]
  rfl
theorem drop_cons {bs : List Int} {i : Nat} (h : i < bs.length) : bs.drop i = bs.getD i 0 :: bs.drop (i + 1) := by
  rw [List.drop_eq_getElem_cons h]
  simp [List.getD, h]

set_option maxRecDepth 20000 in
set_option maxHeartbeats 1600000 in
theorem r10sum_any (a : Option Addr) (la ca : Nat) (bs : List Int) (w : World) (h : Byts w a la ca bs) :
    Calls Try.prog 46 #[.slice a la ca] w fun e w' => e = .returned (.int .u32 (sumC bs : Int)) ∧ w' = w := by
  have hl := h.hlen
  have hc := h.hcap
  have hm := h.hmax
  unfold maxLen at hm
  obtain ⟨R, hR⟩ : ∃ R, R = runC 4294967295 bs := ⟨_, rfl⟩
  have HR : Hid (R = runC 4294967295 bs) := hR
  have H : Hid (Byts w a la ca bs) := h
  have HS : Hid (sumC bs = R ^^^ 4294967295) := by show _ = _; rw [HR.out]; rfl
  have HL : Hid (bs.length = la) := hl
  obtain ⟨s, hs⟩ : ∃ s, s = sumC bs := ⟨_, rfl⟩
  rw [← hs] at HS ⊢
  clear hR h hl hs
  go_enter Try.func46, Try.ntmps46
  go_wp2
  go_loopw [3, 4] (fun v3 v4 wr => ∃ r i : Nat, v3 = .int .u32 r ∧ v4 = .int .i64 i ∧ i ≤ la ∧ Hid (r < 4294967296 ∧ runC r (bs.drop i) = R) ∧ w = wr) (fun _ v4 _ => la - (intOf v4).toNat)
  case atStart => exact ⟨4294967295, 0, rfl, rfl, Nat.zero_le _, ⟨by decide, by rw [HR.out]; rfl⟩, rfl⟩
  case round =>
    obtain ⟨r, i, rfl, rfl, hi, HI, rfl⟩ := hrel
    by_cases hlt : i < la
    · have hlti : (i : Int) < (la : Int) := by omega
      obtain ⟨b, off, rfl, hcell⟩ := H.out.cells (by omega)
      have c0 := hcell i hlt
      have hbb := H.out.word (bs.getD i 0) (by
        have : i < bs.length := by rw [HL.out]; exact hlt
        simp [List.getD, this])
      obtain ⟨x, hx⟩ : ∃ x, x = bs.getD i 0 := ⟨_, rfl⟩
      rw [← hx] at c0 hbb
      have HB : Hid (bits .xor .u32 (r : Int) x = ((r ^^^ x.toNat : Nat) : Int) ∧ r ^^^ x.toNat < 4294967296 ∧ runC (byteC r x.toNat) (bs.drop (i + 1)) = R) := ⟨bits_byte HI.out.1 hbb, xor_lt32 HI.out.1 (by omega), by
        have e := HI.out.2
        rw [drop_cons (by rw [HL.out]; exact hlt), ← hx] at e
        exact e⟩
      clear hcell HI hx
      go_wp2
      go_loopw [3, 5] (fun v3 v5 wr => ∃ q k : Nat, v3 = .int .u32 q ∧ v5 = .int .i64 k ∧ k ≤ 8 ∧ Hid (q < 4294967296 ∧ stepsC (8 - k) q = byteC r x.toNat) ∧ w = wr) (fun _ v5 _ => 8 - (intOf v5).toNat)
      case atStart => exact ⟨r ^^^ x.toNat, 0, by rw [HB.out.1], rfl, Nat.zero_le _, ⟨HB.out.2.1, rfl⟩, rfl⟩
      case round =>
        obtain ⟨q, k, rfl, rfl, hk, HQ, rfl⟩ := hrel
        by_cases hk8 : k < 8
        · have hk8i : (k : Int) < 8 := by omega
          have HN : Hid (stepC q < 4294967296 ∧ stepsC (8 - (k + 1)) (stepC q) = byteC r x.toNat) := ⟨stepC_lt HQ.out.1, by rw [← steps_on hk8]; exact HQ.out.2⟩
          have hq := HQ.out.1
          by_cases ho : q % 2 = 1
          · have hoi : (q : Int) % 2 = 1 := by omega
            have HX : Hid (bits .xor .u32 ((q : Int) / 2) 3988292384 = ((stepC q : Nat) : Int)) := bits_step hq ho
            clear HQ ho
            go_wp2
            go_roundw
            case rel => exact ⟨stepC q, k + 1, by rw [HX.out], by go_num, by omega, HN, by first | rfl | trivial⟩
            case measure => simp [intOf]; omega
          · have hoi : ((q : Int) % 2 == 1) = false := by simp; omega
            have HX : Hid ((q : Int) / 2 = ((stepC q : Nat) : Int)) := step_even ho
            clear HQ ho
            go_wp2
            go_roundw
            case rel => exact ⟨stepC q, k + 1, by rw [HX.out], by go_num, by omega, HN, by first | rfl | trivial⟩
            case measure => simp [intOf]; omega
        · obtain rfl : k = 8 := by omega
          go_wp2
          go_roundw
          case rel => exact ⟨q, i + 1, rfl, by go_num, by omega, ⟨HQ.out.1, by
            have := HQ.out.2
            rw [show 8 - 8 = 0 by rfl] at this
            rw [show q = byteC r x.toNat from this]
            exact HB.out.2.2⟩, by first | rfl | trivial⟩
          case measure => simp [intOf]; omega
    · obtain rfl : i = la := by omega
      have HE : Hid (bits .xor .u32 (r : Int) 4294967295 = (s : Int)) := by
        show _ = _
        have hr := HI.out.2
        rw [List.drop_eq_nil_of_le (by rw [HL.out]; exact Nat.le_refl _)] at hr
        rw [bits_all HI.out.1, HS.out, show r = R from hr]
      clear HI
      go_wp2
      go_ret
      exact ⟨ret_int HE.out, rfl⟩
end Go.Proofs.Ytjokbikelklaiaa

namespace Go.Proofs.Ytjokbikelklaiaa
open Go.RowKit

set_option maxRecDepth 20000 in
set_option maxHeartbeats 1600000 in
theorem r10right_any (d : Bool) (s a : Int) (b : Option Addr) (lb cb : Nat) (w : World) (hlb : lb < 9223372036854775808) :
    Calls Try.prog 43 #[.agg #[.bool d, .int .i64 s, .int .i64 a, .slice b lb cb]] w fun e w' => e = .returned (.bool (rightFr d s a lb)) ∧ Below w.heap.size w w' := by
  have hV := (Below.refl w.heap.size w).alloc (Nat.le_refl _) (.cells #[.bool d, .int .i64 s, .int .i64 a, .slice b lb cb] 65)
  have NO : ∀ {P : Prop}, (0 ≤ s ∧ s ≤ 1073741824 ∧ 0 ≤ a ∧ a ≤ 1073741824 ∧ lb ≤ 1048576 ∧ (d = true ∨ s = 0 ∧ lb = 0) → False) → Hid (rightFr d s a lb = false) := fun h => Bool.eq_false_iff.2 (fun e => h ((rightFr_iff d s a lb).1 e))
  have YES : (0 ≤ s ∧ s ≤ 1073741824 ∧ 0 ≤ a ∧ a ≤ 1073741824 ∧ lb ≤ 1048576 ∧ (d = true ∨ s = 0 ∧ lb = 0)) → Hid (rightFr d s a lb = true) := fun h => (rightFr_iff d s a lb).2 h
  by_cases h1 : s < 0
  · have h1d : decide (s < 0) = true := decide_eq_true h1
    have HE := NO (P := True) (fun h => by omega)
    clear NO YES
    go_enter Try.func43, Try.ntmps43
    go_wp2
    go_ret
    exact ⟨ret_bool HE.out.symm, hV⟩
  have h1d : decide (s < 0) = false := decide_eq_false h1
  by_cases h2 : 1073741824 < s
  · have h2d : decide ((1073741824 : Int) < s) = true := decide_eq_true h2
    have HE := NO (P := True) (fun h => by omega)
    clear NO YES
    go_enter Try.func43, Try.ntmps43
    go_wp2
    go_ret
    exact ⟨ret_bool HE.out.symm, hV⟩
  have h2d : decide ((1073741824 : Int) < s) = false := decide_eq_false h2
  by_cases h3 : a < 0
  · have h3d : decide (a < 0) = true := decide_eq_true h3
    have HE := NO (P := True) (fun h => by omega)
    clear NO YES
    go_enter Try.func43, Try.ntmps43
    go_wp2
    go_ret
    exact ⟨ret_bool HE.out.symm, hV⟩
  have h3d : decide (a < 0) = false := decide_eq_false h3
  by_cases h4 : 1073741824 < a
  · have h4d : decide ((1073741824 : Int) < a) = true := decide_eq_true h4
    have HE := NO (P := True) (fun h => by omega)
    clear NO YES
    go_enter Try.func43, Try.ntmps43
    go_wp2
    go_ret
    exact ⟨ret_bool HE.out.symm, hV⟩
  have h4d : decide ((1073741824 : Int) < a) = false := decide_eq_false h4
  by_cases h5 : 1048576 < lb
  · have h5d : decide ((1048576 : Int) < (lb : Int)) = true := decide_eq_true (by omega)
    have HE := NO (P := True) (fun h => by omega)
    clear NO YES
    go_enter Try.func43, Try.ntmps43
    go_wp2
    go_ret
    exact ⟨ret_bool HE.out.symm, hV⟩
  have h5d : decide ((1048576 : Int) < (lb : Int)) = false := decide_eq_false (by omega)
  cases d with
  | true =>
    have HE := YES ⟨by omega, by omega, by omega, by omega, by omega, .inl rfl⟩
    clear NO YES
    go_enter Try.func43, Try.ntmps43
    go_wp2
    go_ret
    exact ⟨ret_bool HE.out.symm, hV⟩
  | false =>
    by_cases h6 : s = 0
    · subst h6
      by_cases h7 : lb = 0
      · subst h7
        have HE := YES ⟨by omega, by omega, by omega, by omega, by omega, .inr ⟨rfl, rfl⟩⟩
        clear NO YES
        go_enter Try.func43, Try.ntmps43
        go_wp2
        go_ret
        exact ⟨ret_bool HE.out.symm, hV⟩
      · have h7d : ((lb : Int) == 0) = false := by simp; omega
        have HE := NO (P := True) (fun h => by simp at h; omega)
        clear NO YES
        go_enter Try.func43, Try.ntmps43
        go_wp2
        go_ret
        exact ⟨ret_bool HE.out.symm, hV⟩
    · have h6d : (s == 0) = false := by simp; omega
      have HE := NO (P := True) (fun h => by simp at h; omega)
      clear NO YES
      go_enter Try.func43, Try.ntmps43
      go_wp2
      go_ret
      exact ⟨ret_bool HE.out.symm, hV⟩

/-- What a call that tells a frame's bytes makes. -/
def EncT (d : Bool) (s a : Int) (body : List Int) (w : World) (e : Ending) (w' : World) : Prop := ∃ a' l' c' ys err, e = .returned (.tuple #[.slice a' l' c', .int .i64 err]) ∧ Byts w' a' l' c' ys ∧ ResEnc d s a body ys err ∧ ((a' = none → c' = 0) ∧ ∀ ad, a' = some ad → 0 < l' → w.heap.size ≤ ad.block ∧ IsB w' ad.block) ∧ Below w.heap.size w w'
theorem BOwn.lit1 (w : World) (x : Int) : BOwn (w.alloc (.cells #[.int .u8 x] 5)) w.heap.size (.slice (some ⟨w.heap.size, 0, none⟩) 1 1) [x] :=
  World.ownsRow_lit w #[.int .u8 x] 1 (Nat.le_refl _) (by decide) rfl
theorem Byts.lit4 (w : World) (x y z u : Int) (hx : 0 ≤ x ∧ x < 256) (hy : 0 ≤ y ∧ y < 256) (hz : 0 ≤ z ∧ z < 256) (hu : 0 ≤ u ∧ u < 256) : Byts (w.alloc (.cells #[.int .u8 x, .int .u8 y, .int .u8 z, .int .u8 u] 5)) (some ⟨w.heap.size, 0, none⟩) 4 4 [x, y, z, u] := by
  refine ⟨rfl, Nat.le_refl _, by unfold maxLen; omega, fun _ => ⟨w.heap.size, 0, rfl, fun i hi => ?_⟩, fun v hv => ?_⟩
  · have : i = 0 ∨ i = 1 ∨ i = 2 ∨ i = 3 := by omega
    rcases this with rfl | rfl | rfl | rfl <;> simp
  · simp at hv
    rcases hv with rfl | rfl | rfl | rfl <;> assumption

set_option maxRecDepth 20000 in
set_option maxHeartbeats 3200000 in
/-- From the first byte on. -/
theorem r10enc_any (d : Bool) (s a : Int) (b : Option Addr) (lb cb : Nat) (body : List Int) (w : World) (h : Byts w b lb cb body) (hnil : b = none → cb = 0) :
    Calls Try.prog 33 #[.agg #[.bool d, .int .i64 s, .int .i64 a, .slice b lb cb]] w fun e w' => EncT d s a body w e w' := by
  have hl := h.hlen
  have hcap := h.hcap
  have hmax := h.hmax
  unfold maxLen at hmax
  have hV := balloc w (.cells #[.bool d, .int .i64 s, .int .i64 a, .slice b lb cb] 65)
  have c0 : (w.alloc (.cells #[.bool d, .int .i64 s, .int .i64 a, .slice b lb cb] 65)).cell? ⟨w.heap.size, 0, none⟩ = some (.bool d) := by simp
  have c1 : (w.alloc (.cells #[.bool d, .int .i64 s, .int .i64 a, .slice b lb cb] 65)).cell? ⟨w.heap.size, 1, none⟩ = some (.int .i64 s) := by simp
  have c2 : (w.alloc (.cells #[.bool d, .int .i64 s, .int .i64 a, .slice b lb cb] 65)).cell? ⟨w.heap.size, 2, none⟩ = some (.int .i64 a) := by simp
  have c3 : (w.alloc (.cells #[.bool d, .int .i64 s, .int .i64 a, .slice b lb cb] 65)).cell? ⟨w.heap.size, 3, none⟩ = some (.slice b lb cb) := by simp
  replace h := h.below hV
  have HL : Hid (body.length = lb) := hl
  clear hl
  go_enter Try.func33, Try.ntmps33
  go_wp2_with fail
  refine (r10right_any d s a b lb cb _ (by omega)).mono ?_
  rintro e w1 ⟨rfl, hb1⟩
  have hB1 := bthen hV hb1
  replace h := h.below hb1
  replace c0 := bkeep hb1 c0 rfl
  replace c1 := bkeep hb1 c1 rfl
  replace c2 := bkeep hb1 c2 rfl
  replace c3 := bkeep hb1 c3 rfl
  obtain ⟨G, hG⟩ : ∃ G, G = w.heap.size := ⟨_, rfl⟩
  rw [← hG] at c0 c1 c2 c3
  rw [← hG]
  clear hV hb1 hG
  cases hr : rightFr d s a lb with
  | false =>
    have HF : Hid (ResEnc d s a body [] 1) := .inr ⟨by rw [HL.out]; exact hr, rfl, rfl⟩
    clear h c0 c1 c2 c3
    go_wp2
    go_ret2
    exact ⟨none, 0, 0, [], 1, rfl, Byts.nil _, HF.out, ⟨fun _ => rfl, fun _ e => (by cases e)⟩, hB1⟩
  | true =>
    obtain ⟨x1, x2, x3, x4, x5, -⟩ := (rightFr_iff d s a lb).1 hr
    obtain ⟨S, rfl⟩ : ∃ S : Nat, s = (S : Int) := ⟨s.toNat, by omega⟩
    obtain ⟨A, rfl⟩ : ∃ A : Nat, a = (A : Int) := ⟨a.toNat, by omega⟩
    have HR : Hid (rightFr d S A body.length = true) := by show _ = _; rw [HL.out]; exact hr
    clear hr
    cases d with
    | false =>
      have own0 := BOwn.lit1 w1 0
      have hb2 := balloc w1 (.cells #[.int .u8 0] 5)
      have z0 := bkeep (balloc w1 (.cells #[.int .u8 0] 5)) c0 rfl
      have z1 := bkeep hb2 c1 rfl
      go_wp2_with fail
      refine (r9number_any S _ (by omega)).mono ?_
      rintro e w3 ⟨v3, cs, rfl, o3, k3, hb3⟩
      obtain ⟨sa, sn, sc, rfl, hs3, -, nn3⟩ := o3.fresh k3.digs
      have l3 := code_10 k3 (by omega)
      have e3 := hs3.hlen
      replace own0 := own9 own0 hb3
      have b13 := bthen hb2 hb3
      have K3 : Hid (IsCode cs S) := k3
      clear o3 hb2 hb3 k3 z0 z1 c0 c1
      have HL3 : Hid (cs.length = sn) := e3
      clear e3
      go_wp2_with (at_builtin; refine wpList_appBW _ rfl _ _ 31 rfl Try.underlying31 w1.heap.size _ _ rfl own0 sa sn sc cs rfl hs3 (nil9 nn3) ?c1 w1 ?c2 b13 ?_)
      case c1 => have := HL3.out; simp; omega
      case c2 => exact b13.size
      rintro v4 w4 own4 b14 -
      clear own0 hs3 b13 nn3
      have y2 := bkeep b14 c2 rfl
      go_wp2_with fail
      refine (r9number_any A _ (by omega)).mono ?_
      rintro e w5 ⟨v5, ca, rfl, o5, k5, hb5⟩
      obtain ⟨ta, tn, tc, rfl, hs5, -, nn5⟩ := o5.fresh k5.digs
      have l5 := code_10 k5 (by omega)
      have HL5 : Hid (ca.length = tn) := hs5.hlen
      replace own4 := own9 own4 hb5
      have b15 := b14.trans (hb5.mono b14.size)
      have K5 : Hid (IsCode ca A) := k5
      clear o5 b14 hb5 k5 y2 c2
      go_wp2_with (at_builtin; refine wpList_appBW _ rfl _ _ 31 rfl Try.underlying31 w1.heap.size _ _ rfl own4 ta tn tc ca rfl hs5 (nil9 nn5) ?c1 w1 ?c2 b15 ?_)
      case c1 => have := HL5.out; have := HL3.out; simp; omega
      case c2 => exact b15.size
      rintro v6 w6 own6 b16 -
      clear own4 hs5 b15 nn5
      replace c3 := bkeep b16 c3 rfl
      replace h := h.below b16
      go_wp2_with fail
      refine (r9bytes_any b lb cb body _ h hnil (by omega)).mono ?_
      rintro e w7 ⟨v7, cc, rfl, o7, k7, hb7⟩
      have dgb := h.digs
      have l7 := code_10 k7 (by rw [HL.out]; omega)
      have HLc : Hid (cc.length ≤ 10) := l7
      have HL3' := HL3.out
      have HL5' := HL5.out
      have HK : Hid (IsHead false S A body (0 :: (cs ++ (ca ++ (cc ++ body))))) := ⟨cs, ca, cc, by simpa using K3.out, by simpa using K5.out, k7, rfl⟩
      have dgm := HK.out.digs dgb
      obtain ⟨ua, un, uc, rfl, hs7, -, nn7⟩ := o7.fresh (fun z hz => dgm z (by simp only [List.mem_cons, List.mem_append] at hz ⊢; exact .inr (.inr (.inr hz))))
      replace own6 := own9 own6 hb7
      have b17 := b16.trans (hb7.mono b16.size)
      have HL7 : Hid ((cc ++ body).length = un) := hs7.hlen
      clear o7 b16 hb7 k7 l7 h c3 HL3' HL5' dgb
      go_wp2_with (at_builtin; refine wpList_appBW _ rfl _ _ 31 rfl Try.underlying31 w1.heap.size _ _ rfl own6 ua un uc (cc ++ body) rfl hs7 (nil9 nn7) ?c1 w1 ?c2 b17 ?_)
      case c1 => have := HL3.out; have := HL5.out; have := HL7.out; have := HLc.out; have := HL.out; simp at *; omega
      case c2 => exact b17.size
      rintro v8 w8 own8 b18 -
      clear own6 hs7 b17 nn7
      obtain ⟨M, hM⟩ : ∃ M, M = 0 :: (cs ++ (ca ++ (cc ++ body))) := ⟨_, rfl⟩
      replace own8 : BOwn w8 w1.heap.size v8 M := by rw [hM]; simpa using own8
      rw [← hM] at HK dgm
      obtain ⟨oa, on, oc, rfl, hO, -, nnO⟩ := own8.fresh dgm
      have HLO : Hid (M.length = on) := hO.hlen
      have hlen := (HK.out.len HR.out).1
      have HLM : Hid (M.length ≤ 1048607) := by show _ ≤ _; have := HL.out; omega
      clear hM hlen
      go_wp2_with fail
      refine (r10sum_any oa on oc M _ hO).mono ?_
      rintro e w9 ⟨rfl, rfl⟩
      have hs := sumC_lt dgm
      have HE : Hid (IsEnc false S A body (M ++ be4 (sumC M))) := ⟨M, HK.out, rfl⟩
      obtain ⟨T, hT⟩ : ∃ T, T = sumC M := ⟨_, rfl⟩
      rw [← hT] at hs HE
      rw [← hT]
      have hlit := Byts.lit4 w9 ((T : Int) / 16777216) ((T : Int) / 65536 % 256) ((T : Int) / 256 % 256) ((T : Int) % 256) (by omega) (by omega) (by omega) (by omega)
      have HB4 : Hid ([(T : Int) / 16777216, (T : Int) / 65536 % 256, (T : Int) / 256 % 256, (T : Int) % 256] = be4 T) := by
        show _ = _
        unfold be4
        rw [show (T : Int) / 16777216 = ((T / 16777216 % 256 : Nat) : Int) by omega, show (T : Int) / 65536 % 256 = ((T / 65536 % 256 : Nat) : Int) by omega, show (T : Int) / 256 % 256 = ((T / 256 % 256 : Nat) : Int) by omega, show (T : Int) % 256 = ((T % 256 : Nat) : Int) by omega]
      have hb9 := b18.alloc b18.size (.cells #[.int .u8 ((T : Int) / 16777216), .int .u8 ((T : Int) / 65536 % 256), .int .u8 ((T : Int) / 256 % 256), .int .u8 ((T : Int) % 256)] 5)
      replace own8 := own8.alloc (.cells #[.int .u8 ((T : Int) / 16777216), .int .u8 ((T : Int) / 65536 % 256), .int .u8 ((T : Int) / 256 % 256), .int .u8 ((T : Int) % 256)] 5)
      clear hT hO nnO b18
      go_wp2_with (at_builtin; refine wpList_appBW _ rfl _ _ 31 rfl Try.underlying31 w1.heap.size _ _ rfl own8 (some ⟨w9.heap.size, 0, none⟩) 4 4 _ rfl hlit (fun e => by cases e) ?c1 w1 ?c2 hb9 ?_)
      case c1 => have := HLM.out; omega
      case c2 => exact hb9.size
      rintro v10 w10 own10 b110 -
      rw [HB4.out] at own10
      have dg10 := HE.out.digs (body := body) (fun z hz => dgm z (by
        obtain ⟨cs', ca', cb', -, -, -, e⟩ := HK.out
        rw [e]
        simp [hz]))
      obtain ⟨ra, rn, rc, rfl, hZ, qbZ, nnZ⟩ := own10.fresh dg10
      have hBB := hB1.trans (b110.mono hB1.size)
      have HZ : Hid (Byts w10 ra rn rc (M ++ be4 T) ∧ ((ra = none → rc = 0) ∧ ∀ ad, ra = some ad → 0 < rn → w.heap.size ≤ ad.block ∧ IsB w10 ad.block)) := ⟨hZ, nil9 nnZ, fun ad e h0 => by
        obtain ⟨q, e2, hq, cur, hqc, -⟩ := qbZ h0
        rw [e] at e2
        cases e2
        exact ⟨Nat.le_trans hB1.size hq, cur, hqc⟩⟩
      clear own8 hlit hb9 own10 b110 hZ nnZ qbZ dg10 dgm
      go_wp2
      go_ret2
      exact ⟨ra, rn, rc, _, 0, rfl, HZ.out.1, .inl ⟨HR.out, HE.out, rfl⟩, HZ.out.2, hBB⟩
    | true =>
      have own0 := BOwn.lit1 w1 1
      have hb2 := balloc w1 (.cells #[.int .u8 1] 5)
      have z0 := bkeep (balloc w1 (.cells #[.int .u8 0] 5)) c0 rfl
      have z1 := bkeep hb2 c1 rfl
      go_wp2_with fail
      refine (r9number_any S _ (by omega)).mono ?_
      rintro e w3 ⟨v3, cs, rfl, o3, k3, hb3⟩
      obtain ⟨sa, sn, sc, rfl, hs3, -, nn3⟩ := o3.fresh k3.digs
      have l3 := code_10 k3 (by omega)
      have e3 := hs3.hlen
      replace own0 := own9 own0 hb3
      have b13 := bthen hb2 hb3
      have K3 : Hid (IsCode cs S) := k3
      clear o3 hb2 hb3 k3 z0 z1 c0 c1
      have HL3 : Hid (cs.length = sn) := e3
      clear e3
      go_wp2_with (at_builtin; refine wpList_appBW _ rfl _ _ 31 rfl Try.underlying31 w1.heap.size _ _ rfl own0 sa sn sc cs rfl hs3 (nil9 nn3) ?c1 w1 ?c2 b13 ?_)
      case c1 => have := HL3.out; simp; omega
      case c2 => exact b13.size
      rintro v4 w4 own4 b14 -
      clear own0 hs3 b13 nn3
      have y2 := bkeep b14 c2 rfl
      go_wp2_with fail
      refine (r9number_any A _ (by omega)).mono ?_
      rintro e w5 ⟨v5, ca, rfl, o5, k5, hb5⟩
      obtain ⟨ta, tn, tc, rfl, hs5, -, nn5⟩ := o5.fresh k5.digs
      have l5 := code_10 k5 (by omega)
      have HL5 : Hid (ca.length = tn) := hs5.hlen
      replace own4 := own9 own4 hb5
      have b15 := b14.trans (hb5.mono b14.size)
      have K5 : Hid (IsCode ca A) := k5
      clear o5 b14 hb5 k5 y2 c2
      go_wp2_with (at_builtin; refine wpList_appBW _ rfl _ _ 31 rfl Try.underlying31 w1.heap.size _ _ rfl own4 ta tn tc ca rfl hs5 (nil9 nn5) ?c1 w1 ?c2 b15 ?_)
      case c1 => have := HL5.out; have := HL3.out; simp; omega
      case c2 => exact b15.size
      rintro v6 w6 own6 b16 -
      clear own4 hs5 b15 nn5
      replace c3 := bkeep b16 c3 rfl
      replace h := h.below b16
      go_wp2_with fail
      refine (r9bytes_any b lb cb body _ h hnil (by omega)).mono ?_
      rintro e w7 ⟨v7, cc, rfl, o7, k7, hb7⟩
      have dgb := h.digs
      have l7 := code_10 k7 (by rw [HL.out]; omega)
      have HLc : Hid (cc.length ≤ 10) := l7
      have HL3' := HL3.out
      have HL5' := HL5.out
      have HK : Hid (IsHead true S A body (1 :: (cs ++ (ca ++ (cc ++ body))))) := ⟨cs, ca, cc, by simpa using K3.out, by simpa using K5.out, k7, rfl⟩
      have dgm := HK.out.digs dgb
      obtain ⟨ua, un, uc, rfl, hs7, -, nn7⟩ := o7.fresh (fun z hz => dgm z (by simp only [List.mem_cons, List.mem_append] at hz ⊢; exact .inr (.inr (.inr hz))))
      replace own6 := own9 own6 hb7
      have b17 := b16.trans (hb7.mono b16.size)
      have HL7 : Hid ((cc ++ body).length = un) := hs7.hlen
      clear o7 b16 hb7 k7 l7 h c3 HL3' HL5' dgb
      go_wp2_with (at_builtin; refine wpList_appBW _ rfl _ _ 31 rfl Try.underlying31 w1.heap.size _ _ rfl own6 ua un uc (cc ++ body) rfl hs7 (nil9 nn7) ?c1 w1 ?c2 b17 ?_)
      case c1 => have := HL3.out; have := HL5.out; have := HL7.out; have := HLc.out; have := HL.out; simp at *; omega
      case c2 => exact b17.size
      rintro v8 w8 own8 b18 -
      clear own6 hs7 b17 nn7
      obtain ⟨M, hM⟩ : ∃ M, M = 1 :: (cs ++ (ca ++ (cc ++ body))) := ⟨_, rfl⟩
      replace own8 : BOwn w8 w1.heap.size v8 M := by rw [hM]; simpa using own8
      rw [← hM] at HK dgm
      obtain ⟨oa, on, oc, rfl, hO, -, nnO⟩ := own8.fresh dgm
      have HLO : Hid (M.length = on) := hO.hlen
      have hlen := (HK.out.len HR.out).1
      have HLM : Hid (M.length ≤ 1048607) := by show _ ≤ _; have := HL.out; omega
      clear hM hlen
      go_wp2_with fail
      refine (r10sum_any oa on oc M _ hO).mono ?_
      rintro e w9 ⟨rfl, rfl⟩
      have hs := sumC_lt dgm
      have HE : Hid (IsEnc true S A body (M ++ be4 (sumC M))) := ⟨M, HK.out, rfl⟩
      obtain ⟨T, hT⟩ : ∃ T, T = sumC M := ⟨_, rfl⟩
      rw [← hT] at hs HE
      rw [← hT]
      have hlit := Byts.lit4 w9 ((T : Int) / 16777216) ((T : Int) / 65536 % 256) ((T : Int) / 256 % 256) ((T : Int) % 256) (by omega) (by omega) (by omega) (by omega)
      have HB4 : Hid ([(T : Int) / 16777216, (T : Int) / 65536 % 256, (T : Int) / 256 % 256, (T : Int) % 256] = be4 T) := by
        show _ = _
        unfold be4
        rw [show (T : Int) / 16777216 = ((T / 16777216 % 256 : Nat) : Int) by omega, show (T : Int) / 65536 % 256 = ((T / 65536 % 256 : Nat) : Int) by omega, show (T : Int) / 256 % 256 = ((T / 256 % 256 : Nat) : Int) by omega, show (T : Int) % 256 = ((T % 256 : Nat) : Int) by omega]
      have hb9 := b18.alloc b18.size (.cells #[.int .u8 ((T : Int) / 16777216), .int .u8 ((T : Int) / 65536 % 256), .int .u8 ((T : Int) / 256 % 256), .int .u8 ((T : Int) % 256)] 5)
      replace own8 := own8.alloc (.cells #[.int .u8 ((T : Int) / 16777216), .int .u8 ((T : Int) / 65536 % 256), .int .u8 ((T : Int) / 256 % 256), .int .u8 ((T : Int) % 256)] 5)
      clear hT hO nnO b18
      go_wp2_with (at_builtin; refine wpList_appBW _ rfl _ _ 31 rfl Try.underlying31 w1.heap.size _ _ rfl own8 (some ⟨w9.heap.size, 0, none⟩) 4 4 _ rfl hlit (fun e => by cases e) ?c1 w1 ?c2 hb9 ?_)
      case c1 => have := HLM.out; omega
      case c2 => exact hb9.size
      rintro v10 w10 own10 b110 -
      rw [HB4.out] at own10
      have dg10 := HE.out.digs (body := body) (fun z hz => dgm z (by
        obtain ⟨cs', ca', cb', -, -, -, e⟩ := HK.out
        rw [e]
        simp [hz]))
      obtain ⟨ra, rn, rc, rfl, hZ, qbZ, nnZ⟩ := own10.fresh dg10
      have hBB := hB1.trans (b110.mono hB1.size)
      have HZ : Hid (Byts w10 ra rn rc (M ++ be4 T) ∧ ((ra = none → rc = 0) ∧ ∀ ad, ra = some ad → 0 < rn → w.heap.size ≤ ad.block ∧ IsB w10 ad.block)) := ⟨hZ, nil9 nnZ, fun ad e h0 => by
        obtain ⟨q, e2, hq, cur, hqc, -⟩ := qbZ h0
        rw [e] at e2
        cases e2
        exact ⟨Nat.le_trans hB1.size hq, cur, hqc⟩⟩
      clear own8 hlit hb9 own10 b110 hZ nnZ qbZ dg10 dgm
      go_wp2
      go_ret2
      exact ⟨ra, rn, rc, _, 0, rfl, HZ.out.1, .inl ⟨HR.out, HE.out, rfl⟩, HZ.out.2, hBB⟩
end Go.Proofs.Ytjokbikelklaiaa

namespace Go.Proofs.Ytjokbikelklaiaa
open Go.RowKit

/-- What a call that tells the frame that bytes are makes. -/
def DecT (L : List Int) (w : World) (e : Ending) (w' : World) : Prop := ∃ d s a p l c body err, e = .returned (.tuple #[.agg #[.bool d, .int .i64 s, .int .i64 a, .slice p l c], .int .i64 err]) ∧ Byts w' p l c body ∧ ResDec L d s a body err ∧ ((p = none → c = 0) ∧ ∀ ad, p = some ad → 0 < l → w.heap.size ≤ ad.block ∧ IsB w' ad.block) ∧ Below w.heap.size w w'

theorem Byts.take10 {w : World} {a : Option Addr} {l c k : Nat} {bs : List Int} (h : Byts w a l c bs) (hk : k ≤ l) : Byts w a k c (bs.take k) := by
  refine ⟨by have := h.hlen; simp; omega, by have := h.hcap; omega, h.hmax, fun hp => ?_, fun x hx => h.word x (List.mem_of_mem_take hx)⟩
  obtain ⟨b, off, e, hc⟩ := h.cells (by omega)
  refine ⟨b, off, e, fun i hi => ?_⟩
  rw [hc i (by omega)]
  have := h.hlen
  simp [List.getD, hi]

set_option maxRecDepth 20000 in
set_option maxHeartbeats 6400000 in
theorem r10dec_any (b : Option Addr) (lb cb : Nat) (L : List Int) (w : World) (h : Byts w b lb cb L) (hnil : b = none → cb = 0) (hlen : lb ≤ 140737488355300) :
    Calls Try.prog 38 #[.slice b lb cb] w fun e w' => DecT L w e w' := by
  have hcap := h.hcap
  have hmax := h.hmax
  unfold maxLen at hmax
  have HL : Hid (L.length = lb) := h.hlen
  have hV := balloc w (.cells #[.bool false, .int .i64 0, .int .i64 0, .slice none 0 0] 65)
  have BAD : ∀ wx : World, (∀ d s a body, rightFr d s a body.length = true → ¬ IsEnc d s a body L) → Below w.heap.size w wx → Hid (DecT L w (.returned (.tuple #[.agg #[.bool false, .int .i64 0, .int .i64 0, .slice none 0 0], .int .i64 14])) wx) := fun wx hn hb => ⟨false, 0, 0, none, 0, 0, [], 14, rfl, Byts.nil _, .inr ⟨hn, ⟨rfl, rfl, rfl, rfl⟩, rfl⟩, ⟨fun _ => rfl, fun _ e => (by cases e)⟩, hb⟩
  by_cases h5 : lb < 5
  · have HB := BAD _ (fun d s a body hr he => by have := (dec_first he hr).1; have := HL.out; omega) hV
    have h5d : decide ((lb : Int) < 5) = true := decide_eq_true (by omega)
    clear BAD h hV h5
    go_enter Try.func38, Try.ntmps38
    go_wp2_with fail
    exact bodyPost_ret (v := .tuple #[.agg #[.bool false, .int .i64 0, .int .i64 0, .slice none 0 0], .int .i64 14]) (by simp [results, Try.results38, go_sem]) rfl HB.out
  have h5d : decide ((lb : Int) < 5) = false := decide_eq_false (by omega)
  obtain ⟨B, off, rfl, hcell⟩ := h.cells (by omega)
  have c0 := hcell 0 (by omega)
  rw [Nat.add_zero] at c0
  have w0 := h.word (L.getD 0 0) (by
    have : 0 < L.length := by rw [HL.out]; omega
    simp [List.getD, this])
  obtain ⟨x, hx⟩ : ∃ x, x = L.getD 0 0 := ⟨_, rfl⟩
  rw [← hx] at c0 w0
  have HX : Hid (x = L.getD 0 0) := hx
  have c0V := bkeep hV c0 rfl
  clear hx hcell
  by_cases h1 : 1 < x
  · have HB := BAD _ (fun d s a body hr he => by
      have := (dec_first he hr).2
      rw [← HX.out] at this
      cases d <;> simp at this <;> omega) hV
    have h1d : decide (1 < x) = true := decide_eq_true h1
    clear BAD h hV h1
    go_enter Try.func38, Try.ntmps38
    go_wp2_with fail
    exact bodyPost_ret (v := .tuple #[.agg #[.bool false, .int .i64 0, .int .i64 0, .slice none 0 0], .int .i64 14]) (by simp [results, Try.results38, go_sem]) rfl HB.out
  have h1d : decide (1 < x) = false := decide_eq_false h1
  -- the reader
  have hR := CellF.new w false 0 0 none 0 0
  obtain ⟨V, hVe⟩ : ∃ V, V = w.alloc (.cells #[.bool false, .int .i64 0, .int .i64 0, .slice none 0 0] 65) := ⟨_, rfl⟩
  have hVs : V.heap.size = w.heap.size + 1 := by rw [hVe]; simp
  have c0A := c0V
  rw [← hVe] at hV hR c0V
  have hLV := h.below hV
  have hU := balloc V (.cells #[.slice (some ⟨B, off, none⟩) (lb - 4) cb, .int .i64 1] 88)
  have hRd : RRdAt (V.alloc (.cells #[.slice (some ⟨B, off, none⟩) (lb - 4) cb, .int .i64 1] 88)) V.heap.size (midL L) := by
    refine ⟨some ⟨B, off, none⟩, lb - 4, cb, 1, L.take (lb - 4), by omega, by omega, ?_, heap_alloc_new V _, ?_, fun e => (by cases e), fun _ _ _ => trivial⟩
    · unfold midL
      rw [HL.out]
    · exact (hLV.below hU).take10 (by omega)
  obtain ⟨U, hUe⟩ : ∃ U, U = V.alloc (.cells #[.slice (some ⟨B, off, none⟩) (lb - 4) cb, .int .i64 1] 88) := ⟨_, rfl⟩
  rw [← hUe] at hU hRd
  obtain ⟨g, hge⟩ : ∃ g, g = V.heap.size := ⟨_, rfl⟩
  rw [← hge] at hRd
  have HVe : Hid (V = w.alloc (.cells #[.bool false, .int .i64 0, .int .i64 0, .slice none 0 0] 65)) := hVe
  have HUe : Hid (U = V.alloc (.cells #[.slice (some ⟨B, off, none⟩) (lb - 4) cb, .int .i64 1] 88)) := hUe
  have hg1 : w.heap.size + 1 = g := by rw [hge, hVs]
  have Hg1 : Hid (w.heap.size + 1 = g) := hg1
  have Hge : Hid (V.heap.size ≤ g) := by show _ ≤ _; rw [hge]; exact Nat.le_refl _
  clear hVe hUe hge hg1 c0 h hVs
  go_enter Try.func38, Try.ntmps38
  go_wp2_with fail
  clear c0A
  rw [← HVe.out, ← HUe.out, Hg1.out]
  obtain ⟨G, hG⟩ : ∃ G, G = w.heap.size := ⟨_, rfl⟩
  rw [← hG] at hR
  rw [← hG]
  have HG : Hid (w.heap.size ≤ G) := by show _ ≤ _; rw [hG]; exact Nat.le_refl _
  clear HVe HUe Hg1 hG
  refine (r9rnum_any g (midL L) 1073741824 _ hRd).mono ?_
  rintro e w1 ⟨n1, e1, R1, rfl, hr1, hA1, hgr1⟩
  have hB1 : Below V.heap.size V w1 := hU.grown hgr1 hU.size (fun q hq => by cases hq; exact Hge.out)
  have hn1 := hr1.le
  have HR1 : Hid (ResNum (midL L) 1073741824 n1 e1 R1) := hr1
  clear hr1 hgr1 hRd hU
  go_wp2_with fail
  refine (r9rnum_any g R1 1073741824 _ hA1).mono ?_
  rintro e w2 ⟨n2, e2, R2, rfl, hr2, hA2, hgr2⟩
  have hB2 : Below V.heap.size V w2 := hB1.grown hgr2 hB1.size (fun q hq => by cases hq; exact Hge.out)
  have hn2 := hr2.le
  have HR2 : Hid (ResNum R1 1073741824 n2 e2 R2) := hr2
  clear hr2 hgr2 hA1 hB1
  go_wp2_with fail
  refine (r9rbyt_any g R2 1048576 _ hA2 (by decide)).mono ?_
  rintro e w3 ⟨ya, yl, yc, ys, e3, R3, rfl, ⟨hy, yn, yf⟩, hr3, hA3, hgr3⟩
  have hB3 : Below V.heap.size V w3 := hB2.grown hgr3 hB2.size (fun q hq => by cases hq; exact Hge.out)
  have HR3 : Hid (ResBytR R2 1048576 ys e3 R3) := hr3
  have HYF : Hid (∀ ad, ya = some ad → 0 < yl → w.heap.size ≤ ad.block) := fun ad e h0 => Nat.le_trans (Nat.le_trans hV.size hB2.size) (yf ad e h0).1
  have HI3 : Hid (IsBs w3 ya yl) := fun ad e h0 => (yf ad e h0).2
  clear yf
  clear hr3 hgr3 hA2 hB2
  -- the frame's variable
  obtain ⟨q, hq⟩ : ∃ q, q = (x == 1) := ⟨_, rfl⟩
  have hFn := balloc w3 (.cells #[.bool (x == 1), .int .i64 n1, .int .i64 n2, .slice ya yl yc] 65)
  have c0w := bkeep hB3 c0V rfl
  have hB4 := bthen hB3 hFn
  have hA4 := hA3.below hFn
  have HF := CellF.new w3 (x == 1) n1 n2 ya yl yc
  have ALL : Hid (∀ d s a body, rightFr d s a body.length = true → IsEnc d s a body L → ((n1 : Int) = s ∧ (n2 : Int) = a ∧ ys = body ∧ (x == 1) = d) ∧ (e1 = 0 ∧ e2 = 0 ∧ e3 = 0) ∧ R3 = []) := fun d s a body hr he => by
    obtain ⟨⟨k1, k2, k3⟩, k4, k5⟩ := dec_all he hr HR1.out HR2.out HR3.out
    have k6 := (dec_first he hr).2
    rw [← HX.out] at k6
    exact ⟨⟨k1, k2, k3, first_eq k6⟩, k4, k5⟩
  obtain ⟨W, hWe⟩ : ∃ W, W = w3.alloc (.cells #[.bool (x == 1), .int .i64 n1, .int .i64 n2, .slice ya yl yc] 65) := ⟨_, rfl⟩
  have HWe : Hid (W = w3.alloc (.cells #[.bool (x == 1), .int .i64 n1, .int .i64 n2, .slice ya yl yc] 65)) := hWe
  have hRL := hR.below hB4
  have hBL := bthen hV hB4
  rw [← hWe] at hFn hB4 hA4 HF
  have hyW := hy.below hFn
  have HIW : Hid (IsBs W ya yl) := HI3.out.below hFn
  have hRW := hR.below hB4
  have hLW := hLV.below hB4
  have hBW := bthen hV hB4
  obtain ⟨k, hk⟩ : ∃ k, k = w3.heap.size := ⟨_, rfl⟩
  rw [← hk] at HF
  have Hk : Hid (k = w3.heap.size) := hk
  have BADW : ∀ wx : World, CellF wx G false 0 0 none 0 0 → Below w.heap.size w wx → (∀ d s a body, rightFr d s a body.length = true → ¬ IsEnc d s a body L) → Hid (DecT L w (.returned (.tuple #[.agg #[.bool false, .int .i64 0, .int .i64 0, .slice none 0 0], .int .i64 14])) ((((wx.setCell ⟨G, 0, none⟩ (.bool false)).setCell ⟨G, 1, none⟩ (.int .i64 0)).setCell ⟨G, 2, none⟩ (.int .i64 0)).setCell ⟨G, 3, none⟩ (.slice none 0 0))) := fun wx hc hb hn => BAD _ hn (putF_below hb HG.out _ _ _ _)
  clear hWe hk hy hR hLV hV hFn hB3 hA3 HX HR1 HR2 HR3 BAD c0V
  by_cases z1 : e1 = 0
  case neg =>
    have HB := BADW (w3.alloc (.cells #[.bool (x == 1), .int .i64 n1, .int .i64 n2, .slice ya yl yc] 65)) hRL hBL (fun d s a body hr he => z1 (ALL.out d s a body hr he).2.1.1)
    obtain ⟨r0, r1, r2, r3, f0, f1, f2, f3⟩ := hRL
    have z1d : (e1 != 0) = true := by simp [z1]
    have z1e : (e1 == 0) = false := by simp [z1]
    clear ALL BADW hBW hLW hyW hA4 hB4 HF z1 hRW hBL
    go_wp2_with fail
    exact bodyPost_ret (v := .tuple #[.agg #[.bool false, .int .i64 0, .int .i64 0, .slice none 0 0], .int .i64 14]) (by simp [results, Try.results38, go_sem, r0, r1, r2, r3]) rfl HB.out
  subst z1
  by_cases z2 : e2 = 0
  case neg =>
    have HB := BADW (w3.alloc (.cells #[.bool (x == 1), .int .i64 n1, .int .i64 n2, .slice ya yl yc] 65)) hRL hBL (fun d s a body hr he => z2 (ALL.out d s a body hr he).2.1.2.1)
    obtain ⟨r0, r1, r2, r3, f0, f1, f2, f3⟩ := hRL
    have z2d : (e2 != 0) = true := by simp [z2]
    have z2e : (e2 == 0) = false := by simp [z2]
    clear ALL BADW hBW hLW hyW hA4 hB4 HF z2 hRW hBL
    go_wp2_with fail
    exact bodyPost_ret (v := .tuple #[.agg #[.bool false, .int .i64 0, .int .i64 0, .slice none 0 0], .int .i64 14]) (by simp [results, Try.results38, go_sem, r0, r1, r2, r3]) rfl HB.out
  subst z2
  by_cases z3 : e3 = 0
  case neg =>
    have HB := BADW (w3.alloc (.cells #[.bool (x == 1), .int .i64 n1, .int .i64 n2, .slice ya yl yc] 65)) hRL hBL (fun d s a body hr he => z3 (ALL.out d s a body hr he).2.1.2.2)
    obtain ⟨r0, r1, r2, r3, f0, f1, f2, f3⟩ := hRL
    have z3d : (e3 != 0) = true := by simp [z3]
    have z3e : (e3 == 0) = false := by simp [z3]
    clear ALL BADW hBW hLW hyW hA4 hB4 HF z3 hRW hBL
    go_wp2_with fail
    exact bodyPost_ret (v := .tuple #[.agg #[.bool false, .int .i64 0, .int .i64 0, .slice none 0 0], .int .i64 14]) (by simp [results, Try.results38, go_sem, r0, r1, r2, r3]) rfl HB.out
  subst z3
  clear hRL hBL
  go_wp2_with fail
  rw [← HWe.out, ← Hk.out]
  refine (r9left_any g R3 _ hA4).mono ?_
  rintro e w5 ⟨rfl, hb5⟩
  have hR5 := hRW.below hb5
  have hL5 := hLW.below hb5
  have hy5 := hyW.below hb5
  have HI5 : Hid (IsBs w5 ya yl) := HIW.out.below hb5
  have hB5 := bthen hBW hb5
  obtain ⟨F0, F1, F2, F3, -, -, -, -⟩ := HF.below hb5
  obtain ⟨t, ht⟩ : ∃ t, t = R3.length := ⟨_, rfl⟩
  rw [← ht]
  clear hb5 hRW hLW hyW hBW hA4 HF hB4
  by_cases zL : R3 = []
  case neg =>
    have HB := BADW w5 hR5 hB5 (fun d s a body hr he => zL (ALL.out d s a body hr he).2.2)
    obtain ⟨r0, r1, r2, r3, f0, f1, f2, f3⟩ := hR5
    have t0 : 0 < t := by rw [ht]; exact List.length_pos_iff.2 zL
    have t0d : decide (0 < t) = true := decide_eq_true t0
    clear ALL BADW hL5 hy5 hB5 zL ht
    go_wp2_with fail
    exact bodyPost_ret (v := .tuple #[.agg #[.bool false, .int .i64 0, .int .i64 0, .slice none 0 0], .int .i64 14]) (by simp [results, Try.results38, go_sem, r0, r1, r2, r3]) rfl HB.out
  obtain rfl : t = 0 := by rw [ht, zL]; rfl
  clear ht
  go_wp2_with fail
  refine (r10enc_any (x == 1) n1 n2 ya yl yc ys _ hy5 yn).mono ?_
  rintro e w6 ⟨za, zl, zc, zs, ze, rfl, hz, hres, -, hb6⟩
  have hR6 := hR5.below hb6
  have hL6 := hL5.below hb6
  have hy6 := hy5.below hb6
  have HI6 : Hid (IsBs w6 ya yl) := HI5.out.below hb6
  have hB6 := bthen hB5 hb6
  replace F0 := bkeep hb6 F0 rfl
  replace F1 := bkeep hb6 F1 rfl
  replace F2 := bkeep hb6 F2 rfl
  replace F3 := bkeep hb6 F3 rfl
  have dgz := hz.digs
  have dgL := hL6.digs
  obtain ⟨S1, hS1⟩ : ∃ S1, S1 = strOf zs := ⟨_, rfl⟩
  obtain ⟨S2, hS2⟩ : ∃ S2, S2 = strOf L := ⟨_, rfl⟩
  have q1 := conv_any hz
  have q2 := conv_any hL6
  rw [← hS1] at q1
  rw [← hS2] at q2
  obtain ⟨r0, r1, r2, r3, f0, f1, f2, f3⟩ := hR6
  have hRc : CellF w6 G false 0 0 none 0 0 := ⟨r0, r1, r2, r3, f0, f1, f2, f3⟩
  clear hb6 hR5 hL5 hy5 hB5 hz hL6
  rcases hres with ⟨rr, re, rfl⟩ | ⟨rr, rfl, rfl⟩
  · by_cases hS : S1 = S2
    · have hzL : zs = L := strOf_inj dgz dgL (by rw [← hS1, ← hS2]; exact hS)
      rw [hzL] at re
      have HD : Hid (ResDec L (x == 1) n1 n2 ys 0) := .inl ⟨rr, re, rfl⟩
      subst hS
      have k1 := Byts.putF hRc hy6 (.bool (x == 1)) (.int .i64 n1) (.int .i64 n2) (.slice ya yl yc)
      have hBB := putF_below hB6 HG.out (.bool (x == 1)) (.int .i64 n1) (.int .i64 n2) (.slice ya yl yc)
      clear ALL BADW hy6 hB6 hzL rr re hS1 hS2 dgz dgL hRc
      go_wp2_with fail
      exact bodyPost_ret (v := .tuple #[.agg #[.bool (x == 1), .int .i64 n1, .int .i64 n2, .slice ya yl yc], .int .i64 0]) (by simp [results, Try.results38, go_sem, r0, r1, r2, r3]) rfl ⟨_, _, _, _, _, _, _, _, rfl, k1, HD.out, ⟨yn, fun ad e h0 => ⟨HYF.out ad e h0, IsBs.putF HI6.out G _ _ _ _ ad e h0⟩⟩, hBB⟩
    · have HB := BADW w6 hRc hB6 (fun d s a body hr he => by
        obtain ⟨⟨k1, k2, k3, k4⟩, -, -⟩ := ALL.out d s a body hr he
        subst k1 k2 k3 k4
        exact hS (by rw [hS1, hS2, re.unique he]))
      have hSb : (S1.toList == S2.toList) = false := by
        rw [ByteArray.toList_eq, ByteArray.toList_eq, beq_eq_false_iff_ne]
        exact fun e => hS (ByteArray.ext (Array.toList_inj.1 e))
      clear ALL BADW hy6 hB6 rr re hS1 hS2 dgz dgL hRc
      go_wp2_with fail
      exact bodyPost_ret (v := .tuple #[.agg #[.bool false, .int .i64 0, .int .i64 0, .slice none 0 0], .int .i64 14]) (by simp [results, Try.results38, go_sem, r0, r1, r2, r3]) rfl HB.out
  · have HB := BADW w6 hRc hB6 (fun d s a body hr he => by
      obtain ⟨⟨k1, k2, k3, k4⟩, -, -⟩ := ALL.out d s a body hr he
      subst k1 k2 k3 k4
      rw [rr] at hr
      cases hr)
    clear ALL BADW hy6 hB6 rr hS1 hS2 dgz dgL hRc
    go_wp2_with fail
    exact bodyPost_ret (v := .tuple #[.agg #[.bool false, .int .i64 0, .int .i64 0, .slice none 0 0], .int .i64 14]) (by simp [results, Try.results38, go_sem, r0, r1, r2, r3]) rfl HB.out

end Go.Proofs.Ytjokbikelklaiaa
