/-
  Contracts of the document's Decode and Same (frame). Written by mk/ref10c.py.
-/
import Derived.Test.YtpoipobmkfphcaaRef10B
import Derived.Test.YtpoipobmkfphcaaF10Dec
import Derived.Test.YtpoipobmkfphcaaRef9D
import Derived.BigQuiet
namespace Go.Proofs.Ytpoipobmkfphcaa
open Go.RowKit

/-- What a call that tells the frame that bytes are makes. -/
def DecT (L : List Int) (w : World) (e : Ending) (w' : World) : Prop := ∃ d s a p l c body err, e = .returned (.tuple #[.agg #[.bool d, .int .i64 s, .int .i64 a, .slice p l c], .int .i64 err]) ∧ Byts w' p l c body ∧ ResDec L d s a body err ∧ ((p = none → c = 0) ∧ ∀ ad, p = some ad → 0 < l → w.heap.size ≤ ad.block ∧ IsB w' ad.block) ∧ Below w.heap.size w w'

theorem Byts.take10 {w : World} {a : Option Addr} {l c k : Nat} {bs : List Int} (h : Byts w a l c bs) (hk : k ≤ l) : Byts w a k c (bs.take k) := by
  refine ⟨by have := h.hlen; simp; omega, by have := h.hcap; omega, h.hmax, fun hp => ?_, fun x hx => h.word x (List.mem_of_mem_take hx)⟩
  obtain ⟨b, off, e, hc⟩ := h.cells (by omega)
  refine ⟨b, off, e, fun i hi => ?_⟩
  rw [hc i (by omega)]
  have := h.hlen
  simp [List.getD, hi]

set_option maxRecDepth 20000 in
set_option maxHeartbeats 6400000 in
theorem r10dec_any (b : Option Addr) (lb cb : Nat) (L : List Int) (w : World) (h : Byts w b lb cb L) (hnil : b = none → cb = 0) (hlen : lb ≤ 140737488355300) :
    Calls Try.prog 14 #[.slice b lb cb] w fun e w' => DecT L w e w' := by
  have hcap := h.hcap
  have hmax := h.hmax
  unfold maxLen at hmax
  have HL : Hid (L.length = lb) := h.hlen
  have hV := balloc w (.cells #[.bool false, .int .i64 0, .int .i64 0, .slice none 0 0] 27)
  have BAD : ∀ wx : World, (∀ d s a body, rightFr d s a body.length = true → ¬ IsEnc d s a body L) → Below w.heap.size w wx → Hid (DecT L w (.returned (.tuple #[.agg #[.bool false, .int .i64 0, .int .i64 0, .slice none 0 0], .int .i64 14])) wx) := fun wx hn hb => ⟨false, 0, 0, none, 0, 0, [], 14, rfl, Byts.nil _, .inr ⟨hn, ⟨rfl, rfl, rfl, rfl⟩, rfl⟩, ⟨fun _ => rfl, fun _ e => (by cases e)⟩, hb⟩
  by_cases h5 : lb < 5
  · have HB := BAD _ (fun d s a body hr he => by have := (dec_first he hr).1; have := HL.out; omega) hV
    have h5d : decide ((lb : Int) < 5) = true := decide_eq_true (by omega)
    clear BAD h hV h5
    go_enter Try.func14, Try.ntmps14
    go_wp2_with fail
    exact bodyPost_ret (v := .tuple #[.agg #[.bool false, .int .i64 0, .int .i64 0, .slice none 0 0], .int .i64 14]) (by simp [results, Try.results14, go_sem]) rfl HB.out
  have h5d : decide ((lb : Int) < 5) = false := decide_eq_false (by omega)
  obtain ⟨B, off, rfl, hcell⟩ := h.cells (by omega)
  have c0 := hcell 0 (by omega)
  rw [Nat.add_zero] at c0
  have w0 := h.word (L.getD 0 0) (by
    have : 0 < L.length := by rw [HL.out]; omega
    simp [List.getD, this])
  obtain ⟨x, hx⟩ : ∃ x, x = L.getD 0 0 := ⟨_, rfl⟩
  rw [← hx] at c0 w0
  have HX : Hid (x = L.getD 0 0) := hx
  have c0V := bkeep hV c0 rfl
  clear hx hcell
  by_cases h1 : 1 < x
  · have HB := BAD _ (fun d s a body hr he => by
      have := (dec_first he hr).2
      rw [← HX.out] at this
      cases d <;> simp at this <;> omega) hV
    have h1d : decide (1 < x) = true := decide_eq_true h1
    clear BAD h hV h1
    go_enter Try.func14, Try.ntmps14
    go_wp2_with fail
    exact bodyPost_ret (v := .tuple #[.agg #[.bool false, .int .i64 0, .int .i64 0, .slice none 0 0], .int .i64 14]) (by simp [results, Try.results14, go_sem]) rfl HB.out
  have h1d : decide (1 < x) = false := decide_eq_false h1
  -- the reader
  have hR := CellF.new w false 0 0 none 0 0
  obtain ⟨V, hVe⟩ : ∃ V, V = w.alloc (.cells #[.bool false, .int .i64 0, .int .i64 0, .slice none 0 0] 27) := ⟨_, rfl⟩
  have hVs : V.heap.size = w.heap.size + 1 := by rw [hVe]; simp
  have c0A := c0V
  rw [← hVe] at hV hR c0V
  have hLV := h.below hV
  have hU := balloc V (.cells #[.slice (some ⟨B, off, none⟩) (lb - 4) cb, .int .i64 1] 51)
  have hRd : RRdAt (V.alloc (.cells #[.slice (some ⟨B, off, none⟩) (lb - 4) cb, .int .i64 1] 51)) V.heap.size (midL L) := by
    refine ⟨some ⟨B, off, none⟩, lb - 4, cb, 1, L.take (lb - 4), by omega, by omega, ?_, heap_alloc_new V _, ?_, fun e => by cases e⟩
    · unfold midL
      rw [HL.out]
    · exact (hLV.below hU).take10 (by omega)
  obtain ⟨U, hUe⟩ : ∃ U, U = V.alloc (.cells #[.slice (some ⟨B, off, none⟩) (lb - 4) cb, .int .i64 1] 51) := ⟨_, rfl⟩
  rw [← hUe] at hU hRd
  obtain ⟨g, hge⟩ : ∃ g, g = V.heap.size := ⟨_, rfl⟩
  rw [← hge] at hRd
  have HVe : Hid (V = w.alloc (.cells #[.bool false, .int .i64 0, .int .i64 0, .slice none 0 0] 27)) := hVe
  have HUe : Hid (U = V.alloc (.cells #[.slice (some ⟨B, off, none⟩) (lb - 4) cb, .int .i64 1] 51)) := hUe
  have hg1 : w.heap.size + 1 = g := by rw [hge, hVs]
  have Hg1 : Hid (w.heap.size + 1 = g) := hg1
  have Hge : Hid (V.heap.size ≤ g) := by show _ ≤ _; rw [hge]; exact Nat.le_refl _
  clear hVe hUe hge hg1 c0 h hVs
  go_enter Try.func14, Try.ntmps14
  go_wp2_with fail
  clear c0A
  rw [← HVe.out, ← HUe.out, Hg1.out]
  obtain ⟨G, hG⟩ : ∃ G, G = w.heap.size := ⟨_, rfl⟩
  rw [← hG] at hR
  rw [← hG]
  have HG : Hid (w.heap.size ≤ G) := by show _ ≤ _; rw [hG]; exact Nat.le_refl _
  clear HVe HUe Hg1 hG
  refine (r9rnum_any g (midL L) 1073741824 _ hRd).mono ?_
  rintro e w1 ⟨n1, e1, R1, rfl, hr1, hA1, hgr1⟩
  have hB1 : Below V.heap.size V w1 := hU.grown hgr1 hU.size (fun q hq => by cases hq; exact Hge.out)
  have hn1 := hr1.le
  have HR1 : Hid (ResNum (midL L) 1073741824 n1 e1 R1) := hr1
  clear hr1 hgr1 hRd hU
  go_wp2_with fail
  refine (r9rnum_any g R1 1073741824 _ hA1).mono ?_
  rintro e w2 ⟨n2, e2, R2, rfl, hr2, hA2, hgr2⟩
  have hB2 : Below V.heap.size V w2 := hB1.grown hgr2 hB1.size (fun q hq => by cases hq; exact Hge.out)
  have hn2 := hr2.le
  have HR2 : Hid (ResNum R1 1073741824 n2 e2 R2) := hr2
  clear hr2 hgr2 hA1 hB1
  go_wp2_with fail
  refine (r9rbyt_any g R2 1048576 _ hA2 (by decide)).mono ?_
  rintro e w3 ⟨ya, yl, yc, ys, e3, R3, rfl, ⟨hy, yn, yf⟩, hr3, hA3, hgr3⟩
  have hB3 : Below V.heap.size V w3 := hB2.grown hgr3 hB2.size (fun q hq => by cases hq; exact Hge.out)
  have HR3 : Hid (ResBytR R2 1048576 ys e3 R3) := hr3
  have HYF : Hid (∀ ad, ya = some ad → 0 < yl → w.heap.size ≤ ad.block) := fun ad e h0 => Nat.le_trans (Nat.le_trans hV.size hB2.size) (yf ad e h0).1
  have HI3 : Hid (IsBs w3 ya yl) := fun ad e h0 => (yf ad e h0).2
  clear yf
  clear hr3 hgr3 hA2 hB2
  -- the frame's variable
  obtain ⟨q, hq⟩ : ∃ q, q = (x == 1) := ⟨_, rfl⟩
  have hFn := balloc w3 (.cells #[.bool (x == 1), .int .i64 n1, .int .i64 n2, .slice ya yl yc] 27)
  have c0w := bkeep hB3 c0V rfl
  have hB4 := bthen hB3 hFn
  have hA4 := hA3.below hFn
  have HF := CellF.new w3 (x == 1) n1 n2 ya yl yc
  have ALL : Hid (∀ d s a body, rightFr d s a body.length = true → IsEnc d s a body L → ((n1 : Int) = s ∧ (n2 : Int) = a ∧ ys = body ∧ (x == 1) = d) ∧ (e1 = 0 ∧ e2 = 0 ∧ e3 = 0) ∧ R3 = []) := fun d s a body hr he => by
    obtain ⟨⟨k1, k2, k3⟩, k4, k5⟩ := dec_all he hr HR1.out HR2.out HR3.out
    have k6 := (dec_first he hr).2
    rw [← HX.out] at k6
    exact ⟨⟨k1, k2, k3, first_eq k6⟩, k4, k5⟩
  obtain ⟨W, hWe⟩ : ∃ W, W = w3.alloc (.cells #[.bool (x == 1), .int .i64 n1, .int .i64 n2, .slice ya yl yc] 27) := ⟨_, rfl⟩
  have HWe : Hid (W = w3.alloc (.cells #[.bool (x == 1), .int .i64 n1, .int .i64 n2, .slice ya yl yc] 27)) := hWe
  have hRL := hR.below hB4
  have hBL := bthen hV hB4
  rw [← hWe] at hFn hB4 hA4 HF
  have hyW := hy.below hFn
  have HIW : Hid (IsBs W ya yl) := HI3.out.below hFn
  have hRW := hR.below hB4
  have hLW := hLV.below hB4
  have hBW := bthen hV hB4
  obtain ⟨k, hk⟩ : ∃ k, k = w3.heap.size := ⟨_, rfl⟩
  rw [← hk] at HF
  have Hk : Hid (k = w3.heap.size) := hk
  have BADW : ∀ wx : World, CellF wx G false 0 0 none 0 0 → Below w.heap.size w wx → (∀ d s a body, rightFr d s a body.length = true → ¬ IsEnc d s a body L) → Hid (DecT L w (.returned (.tuple #[.agg #[.bool false, .int .i64 0, .int .i64 0, .slice none 0 0], .int .i64 14])) ((((wx.setCell ⟨G, 0, none⟩ (.bool false)).setCell ⟨G, 1, none⟩ (.int .i64 0)).setCell ⟨G, 2, none⟩ (.int .i64 0)).setCell ⟨G, 3, none⟩ (.slice none 0 0))) := fun wx hc hb hn => BAD _ hn (putF_below hb HG.out _ _ _ _)
  clear hWe hk hy hR hLV hV hFn hB3 hA3 HX HR1 HR2 HR3 BAD c0V
  by_cases z1 : e1 = 0
  case neg =>
    have HB := BADW (w3.alloc (.cells #[.bool (x == 1), .int .i64 n1, .int .i64 n2, .slice ya yl yc] 27)) hRL hBL (fun d s a body hr he => z1 (ALL.out d s a body hr he).2.1.1)
    obtain ⟨r0, r1, r2, r3, f0, f1, f2, f3⟩ := hRL
    have z1d : (e1 != 0) = true := by simp [z1]
    have z1e : (e1 == 0) = false := by simp [z1]
    clear ALL BADW hBW hLW hyW hA4 hB4 HF z1 hRW hBL
    go_wp2_with fail
    exact bodyPost_ret (v := .tuple #[.agg #[.bool false, .int .i64 0, .int .i64 0, .slice none 0 0], .int .i64 14]) (by simp [results, Try.results14, go_sem, r0, r1, r2, r3]) rfl HB.out
  subst z1
  by_cases z2 : e2 = 0
  case neg =>
    have HB := BADW (w3.alloc (.cells #[.bool (x == 1), .int .i64 n1, .int .i64 n2, .slice ya yl yc] 27)) hRL hBL (fun d s a body hr he => z2 (ALL.out d s a body hr he).2.1.2.1)
    obtain ⟨r0, r1, r2, r3, f0, f1, f2, f3⟩ := hRL
    have z2d : (e2 != 0) = true := by simp [z2]
    have z2e : (e2 == 0) = false := by simp [z2]
    clear ALL BADW hBW hLW hyW hA4 hB4 HF z2 hRW hBL
    go_wp2_with fail
    exact bodyPost_ret (v := .tuple #[.agg #[.bool false, .int .i64 0, .int .i64 0, .slice none 0 0], .int .i64 14]) (by simp [results, Try.results14, go_sem, r0, r1, r2, r3]) rfl HB.out
  subst z2
  by_cases z3 : e3 = 0
  case neg =>
    have HB := BADW (w3.alloc (.cells #[.bool (x == 1), .int .i64 n1, .int .i64 n2, .slice ya yl yc] 27)) hRL hBL (fun d s a body hr he => z3 (ALL.out d s a body hr he).2.1.2.2)
    obtain ⟨r0, r1, r2, r3, f0, f1, f2, f3⟩ := hRL
    have z3d : (e3 != 0) = true := by simp [z3]
    have z3e : (e3 == 0) = false := by simp [z3]
    clear ALL BADW hBW hLW hyW hA4 hB4 HF z3 hRW hBL
    go_wp2_with fail
    exact bodyPost_ret (v := .tuple #[.agg #[.bool false, .int .i64 0, .int .i64 0, .slice none 0 0], .int .i64 14]) (by simp [results, Try.results14, go_sem, r0, r1, r2, r3]) rfl HB.out
  subst z3
  clear hRL hBL
  go_wp2_with fail
  rw [← HWe.out, ← Hk.out]
  refine (r9left_any g R3 _ hA4).mono ?_
  rintro e w5 ⟨rfl, hb5⟩
  have hR5 := hRW.below hb5
  have hL5 := hLW.below hb5
  have hy5 := hyW.below hb5
  have HI5 : Hid (IsBs w5 ya yl) := HIW.out.below hb5
  have hB5 := bthen hBW hb5
  obtain ⟨F0, F1, F2, F3, -, -, -, -⟩ := HF.below hb5
  obtain ⟨t, ht⟩ : ∃ t, t = R3.length := ⟨_, rfl⟩
  rw [← ht]
  clear hb5 hRW hLW hyW hBW hA4 HF hB4
  by_cases zL : R3 = []
  case neg =>
    have HB := BADW w5 hR5 hB5 (fun d s a body hr he => zL (ALL.out d s a body hr he).2.2)
    obtain ⟨r0, r1, r2, r3, f0, f1, f2, f3⟩ := hR5
    have t0 : 0 < t := by rw [ht]; exact List.length_pos_iff.2 zL
    have t0d : decide (0 < t) = true := decide_eq_true t0
    clear ALL BADW hL5 hy5 hB5 zL ht
    go_wp2_with fail
    exact bodyPost_ret (v := .tuple #[.agg #[.bool false, .int .i64 0, .int .i64 0, .slice none 0 0], .int .i64 14]) (by simp [results, Try.results14, go_sem, r0, r1, r2, r3]) rfl HB.out
  obtain rfl : t = 0 := by rw [ht, zL]; rfl
  clear ht
  go_wp2_with fail
  refine (r10enc_any (x == 1) n1 n2 ya yl yc ys _ hy5 yn).mono ?_
  rintro e w6 ⟨za, zl, zc, zs, ze, rfl, hz, hres, -, hb6⟩
  have hR6 := hR5.below hb6
  have hL6 := hL5.below hb6
  have hy6 := hy5.below hb6
  have HI6 : Hid (IsBs w6 ya yl) := HI5.out.below hb6
  have hB6 := bthen hB5 hb6
  replace F0 := bkeep hb6 F0 rfl
  replace F1 := bkeep hb6 F1 rfl
  replace F2 := bkeep hb6 F2 rfl
  replace F3 := bkeep hb6 F3 rfl
  have dgz := hz.digs
  have dgL := hL6.digs
  obtain ⟨S1, hS1⟩ : ∃ S1, S1 = strOf zs := ⟨_, rfl⟩
  obtain ⟨S2, hS2⟩ : ∃ S2, S2 = strOf L := ⟨_, rfl⟩
  have q1 := conv_any hz
  have q2 := conv_any hL6
  rw [← hS1] at q1
  rw [← hS2] at q2
  obtain ⟨r0, r1, r2, r3, f0, f1, f2, f3⟩ := hR6
  have hRc : CellF w6 G false 0 0 none 0 0 := ⟨r0, r1, r2, r3, f0, f1, f2, f3⟩
  clear hb6 hR5 hL5 hy5 hB5 hz hL6
  rcases hres with ⟨rr, re, rfl⟩ | ⟨rr, rfl, rfl⟩
  · by_cases hS : S1 = S2
    · have hzL : zs = L := strOf_inj dgz dgL (by rw [← hS1, ← hS2]; exact hS)
      rw [hzL] at re
      have HD : Hid (ResDec L (x == 1) n1 n2 ys 0) := .inl ⟨rr, re, rfl⟩
      subst hS
      have k1 := Byts.putF hRc hy6 (.bool (x == 1)) (.int .i64 n1) (.int .i64 n2) (.slice ya yl yc)
      have hBB := putF_below hB6 HG.out (.bool (x == 1)) (.int .i64 n1) (.int .i64 n2) (.slice ya yl yc)
      clear ALL BADW hy6 hB6 hzL rr re hS1 hS2 dgz dgL hRc
      go_wp2_with fail
      exact bodyPost_ret (v := .tuple #[.agg #[.bool (x == 1), .int .i64 n1, .int .i64 n2, .slice ya yl yc], .int .i64 0]) (by simp [results, Try.results14, go_sem, r0, r1, r2, r3]) rfl ⟨_, _, _, _, _, _, _, _, rfl, k1, HD.out, ⟨yn, fun ad e h0 => ⟨HYF.out ad e h0, IsBs.putF HI6.out G _ _ _ _ ad e h0⟩⟩, hBB⟩
    · have HB := BADW w6 hRc hB6 (fun d s a body hr he => by
        obtain ⟨⟨k1, k2, k3, k4⟩, -, -⟩ := ALL.out d s a body hr he
        subst k1 k2 k3 k4
        exact hS (by rw [hS1, hS2, re.unique he]))
      have hSb : (S1.toList == S2.toList) = false := by
        rw [ByteArray.toList_eq, ByteArray.toList_eq, beq_eq_false_iff_ne]
        exact fun e => hS (ByteArray.ext (Array.toList_inj.1 e))
      clear ALL BADW hy6 hB6 rr re hS1 hS2 dgz dgL hRc
      go_wp2_with fail
      exact bodyPost_ret (v := .tuple #[.agg #[.bool false, .int .i64 0, .int .i64 0, .slice none 0 0], .int .i64 14]) (by simp [results, Try.results14, go_sem, r0, r1, r2, r3]) rfl HB.out
  · have HB := BADW w6 hRc hB6 (fun d s a body hr he => by
      obtain ⟨⟨k1, k2, k3, k4⟩, -, -⟩ := ALL.out d s a body hr he
      subst k1 k2 k3 k4
      rw [rr] at hr
      cases hr)
    clear ALL BADW hy6 hB6 rr hS1 hS2 dgz dgL hRc
    go_wp2_with fail
    exact bodyPost_ret (v := .tuple #[.agg #[.bool false, .int .i64 0, .int .i64 0, .slice none 0 0], .int .i64 14]) (by simp [results, Try.results14, go_sem, r0, r1, r2, r3]) rfl HB.out

set_option maxRecDepth 20000 in
set_option maxHeartbeats 1600000 in
/-- Two frames that are the same. -/
theorem r10same_eq (d : Bool) (s a : Int) (b b' : Option Addr) (lb cb lb' cb' : Nat) (body : List Int) (w : World) (h : Byts w b lb cb body) (h' : Byts w b' lb' cb' body) :
    Calls Try.prog 15 #[.agg #[.bool d, .int .i64 s, .int .i64 a, .slice b lb cb], .agg #[.bool d, .int .i64 s, .int .i64 a, .slice b' lb' cb']] w fun e w' => e = .returned (.bool true) ∧ Below w.heap.size w w' := by
  have hV := bthen (balloc w (.cells #[.bool d, .int .i64 s, .int .i64 a, .slice b lb cb] 27)) (balloc (w.alloc (.cells #[.bool d, .int .i64 s, .int .i64 a, .slice b lb cb] 27)) (.cells #[.bool d, .int .i64 s, .int .i64 a, .slice b' lb' cb'] 27))
  have q1 := conv_any (h.below hV)
  have q2 := conv_any (h'.below hV)
  obtain ⟨S, hS⟩ : ∃ S, S = strOf body := ⟨_, rfl⟩
  rw [← hS] at q1 q2
  have hd : (d == d) = true := by simp
  have hs : (s == s) = true := by simp
  have ha : (a == a) = true := by simp
  clear h h' hS
  go_enter Try.func15, Try.ntmps15
  go_wp2
  go_ret
  exact ⟨by simp, hV⟩
end Go.Proofs.Ytpoipobmkfphcaa
